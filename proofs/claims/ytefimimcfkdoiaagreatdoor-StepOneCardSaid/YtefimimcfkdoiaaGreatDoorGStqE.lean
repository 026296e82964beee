import Derived.Deep.RegionHeld3
import Derived.Deep.Cut
import Derived.Deep.CutRange
import Derived.BigRegion
import Derived.BigQuiet
import Derived.Test.YtefimimcfkdoiaaGreatDoorGStqD
set_option maxHeartbeats 64000000
set_option maxRecDepth 100000
namespace Go.Proofs.YtefimimcfkdoiaaGreatDoor
open Go.RowKit Go.Shelf
attribute [local go_sem] Oper.semAt_some
theorem Sp.takes_ops {k:Nat} {x:Cd.In} (h:Cd.inB k x=true):Sp.takesN x≤2∧(Sp.takesN x=0→x.op=0∨x.op=1∨x.op=12∨x.op=10)∧(Sp.takesN x=1→x.op=2∨x.op=5∨x.op=7∨x.op=8∨x.op=9∨x.op=11∨x.op=10)∧(Sp.takesN x=2→x.op=3∨x.op=4∨x.op=6):=by
 obtain ⟨hop,-,h10,-⟩:=Sp.ops_of h
 unfold Sp.takesN
 rcases hop with e | e | e | e | e | e | e | e | e | e | e | e | e
 all_goals
  rw [e]
  first
   | (rw [if_neg (by decide)]; simp [Sp.takesT]; done)
   | (rcases h10 e with e2 | e2 <;> (rw [e2]; decide))
theorem rNeeds10_any {N U:Option Addr} {names:List ByteArray} {up:List Nat} {c1 c2:Nat} {pl:Int} {cA mA sA oA:Option Addr} {cN cc mN mc sN sc oN oc:Nat} {s:St.State} {o xn xl:Int} (p:Nat) (w:World) (hla:IsLat w w.heap.size (.agg #[.slice N names.length c1,.slice U up.length c2]) names up) (hz:checkN names up=0) (h:Op10 w s (p:Int) pl cA cN cc mA mN mc sA sN sc oA oN oc) (hx:s.code[p]? = some ⟨o,xn,xl⟩) (hin:Cd.inB up.length ⟨o,xn,xl⟩=true) (_hp:p≤1000) (hsn:sN≤100) (_hmn:mN≤100) :
  Calls Tryz.prog 26 #[.agg #[.slice N names.length c1,.slice U up.length c2],.agg #[.int .i64 (p:Int),.int .i64 pl,.slice cA cN cc,.slice mA mN mc,.slice sA sN sc,.slice oA oN oc]] w fun e w'=>e=.returned (nv10 (Sp.needs ((bottomR names up:Nat):Int) s ⟨o,xn,xl⟩))∧Below w.heap.size w w':=by
 have hbot:∀ W,Below w.heap.size w W→Calls Tryz.prog 55 #[.agg #[.slice N names.length c1,.slice U up.length c2]] W fun e w'=>e=.returned (.int .i64 ((bottomR names up:Nat):Int))∧Below W.heap.size W w':=fun W hb=>by
  rw [bottomR_ok hz []]
  exact bot_same hz [] ((hla.below hb).more hb.size)
 obtain ⟨bt,hbt⟩:∃ bt,bottomR names up=bt:=⟨_,rfl⟩
 rw [hbt] at hbot ⊢
 obtain ⟨V,hV⟩:∃ V,nv10 (Sp.needs (bt:Int) s ⟨o,xn,xl⟩)=V:=⟨_,rfl⟩
 rw [hV]
 obtain ⟨hop,h9,h10,-,h7,-,-⟩:=Sp.ops_of hin
 obtain ⟨hT2,hT0,hT1,hT3⟩:=Sp.takes_ops hin
 dsimp only at hop h9 h10 h7 hT0 hT1 hT3
 obtain ⟨T,hT⟩:∃ T,Sp.takesN ⟨o,xn,xl⟩=T:=⟨_,rfl⟩
 rw [hT] at hT2 hT0 hT1 hT3
 have HTT:=η hT
 have htk:∀ W,Calls Tryz.prog 56 #[.agg #[.int .i64 o,.int .i64 xn,.int .i64 xl]] W fun e w'=>e=.returned (.int .i64 (T:Int))∧Below W.heap.size W w':=fun W=>by
  obtain ⟨k,rfl⟩:∃ k:Nat,o=(k:Int):=⟨o.toNat,by omega⟩
  rw [← hT]
  exact rTakes10_any k xn xl W (by omega) (fun e=>by have:=h10 (by omega); omega)
 have HT:=η htk
 have HBOT:=η hbot
 have HV0:=η hV
 have HOP:=η (show (T=0→o=0∨o=1∨o=12∨o=10)∧(T=1→o=2∨o=5∨o=7∨o=8∨o=9∨o=11∨o=10)∧(T=2→o=3∨o=4∨o=6)∧(o=9→0≤xn∧xn≤3)∧(o=7→xn=0) from ⟨hT0,hT1,hT3,h9,h7⟩)
 have HAT:=η (fun (d:Nat) W (hb:Below w.heap.size w W) (hd:d≤1000)=>rAtom10_any d W (h.below hb) hd (by omega))
 have HFR:=η (fun (n:Nat) W (hb:Below w.heap.size w W) (hn:n≤sN)=>rFrame10_any n W (h.below hb) hn (by omega))
 have HRS:=η h.rs
 have HRM:=η h.rm
 have HSN:=η h.sn
 have HMN:=η h.mn
 clear hV hT htk hbot hop h9 h10 h7 hT0 hT1 hT3 hbt hla hz hin
 have hb1:=(Below.refl _ w).alloc (Nat.le_refl _) (.cells #[.slice N names.length c1,.slice U up.length c2] 25)
 have Bl:=Blk.new w 25 #[.slice N names.length c1,.slice U up.length c2]
 obtain ⟨W1,hW1⟩:∃ W1,w.alloc (.cells #[.slice N names.length c1,.slice U up.length c2] 25)=W1:=⟨_,rfl⟩
 have hz1:W1.heap.size=w.heap.size+1:=by rw [← hW1]; simp
 rw [hW1] at hb1 Bl
 have hb2:=hb1.alloc hb1.size (.cells #[.int .i64 (p:Int),.int .i64 pl,.slice cA cN cc,.slice mA mN mc,.slice sA sN sc,.slice oA oN oc] 35)
 replace Bl:=Bl.alloc (.cells #[.int .i64 (p:Int),.int .i64 pl,.slice cA cN cc,.slice mA mN mc,.slice sA sN sc,.slice oA oN oc] 35)
 have Bs:=Blk.new W1 35 #[.int .i64 (p:Int),.int .i64 pl,.slice cA cN cc,.slice mA mN mc,.slice sA sN sc,.slice oA oN oc]
 rw [hz1] at Bs
 obtain ⟨W2,hW2⟩:∃ W2,W1.alloc (.cells #[.int .i64 (p:Int),.int .i64 pl,.slice cA cN cc,.slice mA mN mc,.slice sA sN sc,.slice oA oN oc] 35)=W2:=⟨_,rfl⟩
 have hz2:W2.heap.size=w.heap.size+2:=by rw [← hW2]; simp; omega
 rw [hW2] at hb2 Bl Bs
 have hb3:=hb2.alloc hb2.size (.cells #[.bool false,.bool false,.int .i64 0,.int .i64 0,.bool false,.int .i64 0,.int .i64 0,.bool false,.int .i64 0,.int .i64 0,.int .i64 0,.int .i64 0,.int .i64 0,.int .i64 0] 70)
 replace Bl:=Bl.alloc (.cells #[.bool false,.bool false,.int .i64 0,.int .i64 0,.bool false,.int .i64 0,.int .i64 0,.bool false,.int .i64 0,.int .i64 0,.int .i64 0,.int .i64 0,.int .i64 0,.int .i64 0] 70)
 replace Bs:=Bs.alloc (.cells #[.bool false,.bool false,.int .i64 0,.int .i64 0,.bool false,.int .i64 0,.int .i64 0,.bool false,.int .i64 0,.int .i64 0,.int .i64 0,.int .i64 0,.int .i64 0,.int .i64 0] 70)
 have Br:=Blk.new W2 70 #[.bool false,.bool false,.int .i64 0,.int .i64 0,.bool false,.int .i64 0,.int .i64 0,.bool false,.int .i64 0,.int .i64 0,.int .i64 0,.int .i64 0,.int .i64 0,.int .i64 0]
 rw [hz2] at Br
 obtain ⟨W3,hW3⟩:∃ W3,W2.alloc (.cells #[.bool false,.bool false,.int .i64 0,.int .i64 0,.bool false,.int .i64 0,.int .i64 0,.bool false,.int .i64 0,.int .i64 0,.int .i64 0,.int .i64 0,.int .i64 0,.int .i64 0] 70)=W3:=⟨_,rfl⟩
 have hz3:W3.heap.size=w.heap.size+3:=by rw [← hW3]; simp; omega
 rw [hW3] at hb3 Bl Bs Br
 obtain ⟨cd,rfl,hcb,t0,t1,t2⟩:=ins_at10 ((h.rc.below hb3).more hb3.size) hx
 dsimp only at t0 t1 t2
 have hpc:p < cN:=by rw [← h.cn]; exact (List.getElem?_eq_some_iff.1 hx).1
 have a0:W3.cell? ⟨w.heap.size+1,0,none⟩=some (.int .i64 (p:Int)):=Bs.cell 0
 have a2:W3.cell? ⟨w.heap.size+1,2,none⟩=some (.slice (some cd) cN cc):=Bs.cell 2
 have hb4:=hb3.alloc hb3.size (.cells #[.int .i64 o,.int .i64 xn,.int .i64 xl] 57)
 replace Bl:=Bl.alloc (.cells #[.int .i64 o,.int .i64 xn,.int .i64 xl] 57)
 replace Bs:=Bs.alloc (.cells #[.int .i64 o,.int .i64 xn,.int .i64 xl] 57)
 replace Br:=Br.alloc (.cells #[.int .i64 o,.int .i64 xn,.int .i64 xl] 57)
 have Bx:=Blk.new W3 57 #[.int .i64 o,.int .i64 xn,.int .i64 xl]
 rw [hz3] at Bx
 obtain ⟨W4,hW4⟩:∃ W4,W3.alloc (.cells #[.int .i64 o,.int .i64 xn,.int .i64 xl] 57)=W4:=⟨_,rfl⟩
 have hz4:W4.heap.size=w.heap.size+4:=by rw [← hW4]; simp; omega
 rw [hW4] at hb4 Bl Bs Br Bx
 have Hl:=η Bl
 have Hs:=η Bs
 have Hr:=η Br
 have Hx:=η Bx
 have HBW:=η hb4
 obtain ⟨l0,l1⟩:=ζ2 Bl
 clear hb1 hb2 hb3 hb4 Bl Bs Br Bx Hl
 clear h hx
 go_enter Tryz.func26,Tryz.ntmps26
 go_wp2_with (fail)
 refine (HBOT.out W4 HBW.out).mono ?_
 rintro e' w1 ⟨rfl,hb⟩
 replace Hs:=bk1q Hs hb
 replace Hr:=bk1q Hr hb
 replace Hx:=bk1q Hx hb
 replace HBW:=bw1q HBW hb
 clear hb
 clear l0 l1 HBOT a0 a2 t0 t1 t2 hcb hW1 hW2 hW3 hW4
 have hbb0:w.heap.size+4≤w1.heap.size:=by have:=Hx.out.lt; omega
 have HSK:Hid (∀ W,Below w1.heap.size w1 W→W.cell? ⟨w.heap.size+1,4,none⟩=some (.slice sA sN sc)∧W.cell? ⟨w.heap.size+3,0,none⟩=some (.int .i64 o)∧W.cell? ⟨w.heap.size+3,1,none⟩=some (.int .i64 xn)∧W.cell? ⟨w.heap.size+3,2,none⟩=some (.int .i64 xl)):=η fun W hb =>
  have h1:=Hs.out.below hb Hs.out.lt
  have h2:=Hx.out.below hb Hx.out.lt
  ⟨h1.cell 4,h2.cell 0,h2.cell 1,h2.cell 2⟩
 have BR:=η (Below.refl w1.heap.size w1)
 have BD:=η ((Below.refl w1.heap.size w1).drew)
 have BDA:=η (((Below.refl w1.heap.size w1).alloc (Nat.le_refl _) (.cells #[.bool false,.bool false,.int .i64 0,.int .i64 0,.bool false,.int .i64 0,.int .i64 0,.bool false,.int .i64 0,.int .i64 0,.int .i64 0,.int .i64 0,.int .i64 0,.int .i64 0] 70)).drew)
 have hwr:IntKind.i64.wrap ((sN:Int) - (T:Int))=(sN:Int) - (T:Int):=IntWalk.i64_in _ (by omega)
 go_wp2_with (fail)
 go_cut [7] from 20 to 30 (fun bx wx=>∃ b,bx=.pointer (some ⟨b,0,none⟩)∧w1.heap.size≤b∧Hid (Below w1.heap.size w1 wx)∧Hid (Blk wx b 70 #[.bool false,.bool false,.int .i64 0,.int .i64 0,.bool false,.int .i64 0,.int .i64 0,.bool false,.int .i64 0,.int .i64 0,.int .i64 (bt:Int),.int .i64 (bt:Int),.int .i64 (bt:Int),.int .i64 ((sN:Int) - (T:Int))]))
 case first =>
  go_region_held3 (fun W=>W.cell? ⟨w.heap.size+1,4,none⟩=some (.slice sA sN sc)∧W.cell? ⟨w.heap.size+3,0,none⟩=some (.int .i64 o)∧W.cell? ⟨w.heap.size+3,1,none⟩=some (.int .i64 xn)∧W.cell? ⟨w.heap.size+3,2,none⟩=some (.int .i64 xl))
   (first | (refine HSK.out _ ?_; first | with_reducible exact BR.out | with_reducible exact BD.out | with_reducible exact BDA.out | with_reducible exact hA | with_reducible exact hAA | with_reducible exact hYY))
   (first
    | (go_at_call 56; refine (HT.out _).mono ?_; rintro e w9 ⟨rfl,hb9⟩; have hA:Below w1.heap.size w1 w9:=(by first | with_reducible exact BD.out.trans (hb9.mono BD.out.size) | with_reducible exact BDA.out.trans (hb9.mono BDA.out.size)); (first | (have hG:=(Blk.new w1 70 #[.bool false,.bool false,.int .i64 0,.int .i64 0,.bool false,.int .i64 0,.int .i64 0,.bool false,.int .i64 0,.int .i64 0,.int .i64 0,.int .i64 0,.int .i64 0,.int .i64 0]).drew.below hb9 (Blk.new w1 70 #[.bool false,.bool false,.int .i64 0,.int .i64 0,.bool false,.int .i64 0,.int .i64 0,.bool false,.int .i64 0,.int .i64 0,.int .i64 0,.int .i64 0,.int .i64 0,.int .i64 0]).drew.lt; have HG:=η hG; have hAA:=hA; have hsz:=Nat.le_refl w1.heap.size; clear hG) | (obtain ⟨WA,hWA⟩:∃ WA,w9.alloc (.cells #[.bool false,.bool false,.int .i64 0,.int .i64 0,.bool false,.int .i64 0,.int .i64 0,.bool false,.int .i64 0,.int .i64 0,.int .i64 0,.int .i64 0,.int .i64 0,.int .i64 0] 70)=WA:=⟨_,rfl⟩; have hG:Blk WA w9.heap.size 70 #[.bool false,.bool false,.int .i64 0,.int .i64 0,.bool false,.int .i64 0,.int .i64 0,.bool false,.int .i64 0,.int .i64 0,.int .i64 0,.int .i64 0,.int .i64 0,.int .i64 0]:=hWA ▸ Blk.new _ _ _; have hAA:Below w1.heap.size w1 WA:=hWA ▸ hA.alloc hA.size _; have HG:=η hG; have hsz:=hA.size; clear hG)); obtain ⟨Y1,Y2,Y3,Y4,Y5,Y6,Y7,Y8,Y9,Y10,Y11,Y12,Y13,Y14,e0,e1,e2,e3,e4,e5,e6,e7,e8,e9,e10,e11,e12,e13,f0,f1,f2,f3,f4,f5,f6,f7,f8,f9,f10,f11,f12,f13,g0,g1,g2,g3,g4,g5,g6,g7,g8,g9,g10,g11,g12,g13,HR9,hk9⟩:=n14_steps HG (.bool false) (.bool false) (.int .i64 0) (.int .i64 0) (.bool false) (.int .i64 0) (.int .i64 0) (.bool false) (.int .i64 0) (.int .i64 0) (.int .i64 (bt:Int)) (.int .i64 (bt:Int)) (.int .i64 (bt:Int)) (.int .i64 ((sN:Int) - (T:Int))); have hYY:Below w1.heap.size w1 Y14:=hAA.trans (hk9.below hAA.size hsz hsz); clear hk9))
  all_goals go_wp2_with fail
  all_goals go_meet
  all_goals exact ⟨_,rfl,hsz,η hYY,HR9⟩
 case rest =>
  obtain ⟨b,rfl,hbb,HBC,Hn⟩:=hcut
  have hbb4:w.heap.size+4≤b:=Nat.le_trans hbb0 hbb
  replace Hs:=bk1q Hs HBC.out
  replace Hr:=bk1q Hr HBC.out
  replace Hx:=bk1q Hx HBC.out
  replace HBW:=bw1q HBW HBC.out
  clear HSK BR BD BDA HBC hwr
  go_wp2
  go_loopw [8] (fun i wr=>∃ k:Nat,k≤T∧i=.int .i64 k∧Hid (∀ j,j < k→Sp.atomAt s.stack j=true)∧Hid (Below w.heap.size w wr)∧Hid (Blk wr (w.heap.size+1) 35 #[.int .i64 (p:Int),.int .i64 pl,.slice (some cd) cN cc,.slice mA mN mc,.slice sA sN sc,.slice oA oN oc])∧Hid (Blk wr (w.heap.size+2) 70 #[.bool false,.bool false,.int .i64 0,.int .i64 0,.bool false,.int .i64 0,.int .i64 0,.bool false,.int .i64 0,.int .i64 0,.int .i64 0,.int .i64 0,.int .i64 0,.int .i64 0])∧Hid (Blk wr (w.heap.size+3) 57 #[.int .i64 o,.int .i64 xn,.int .i64 xl])∧Hid (Blk wr (b) 70 #[.bool false,.bool false,.int .i64 0,.int .i64 0,.bool false,.int .i64 0,.int .i64 0,.bool false,.int .i64 0,.int .i64 0,.int .i64 (bt:Int),.int .i64 (bt:Int),.int .i64 (bt:Int),.int .i64 ((sN:Int) - (T:Int))])) (fun i _=>T - (intOf i).toNat)
  case atStart=>exact ⟨0,Nat.zero_le _,rfl,η fun j hj=>absurd hj (Nat.not_lt_zero _),HBW,Hs,Hr,Hx,Hn⟩
  case round =>
   clear HBW Hs Hr Hx Hn
   obtain ⟨k,hk,rfl,HALL,HBW,Hs,Hr,Hx,Hn⟩:=hrel
   obtain ⟨u1_0,u1_1,u1_2⟩:=cel3q Hx
   go_wp2_with (fail)
   refine (HT.out wr).mono ?_
   rintro e' w2 ⟨rfl,hb⟩
   replace Hs:=bk1q Hs hb
   replace Hr:=bk1q Hr hb
   replace Hx:=bk1q Hx hb
   replace Hn:=bk1q Hn hb
   replace HBW:=bw1q HBW hb
   clear hb
   clear u1_0 u1_1 u1_2
   by_cases hlt:k < T
   ·have HAC:=η (HAT.out k w2 HBW.out (by omega))
    obtain ⟨u2_0,u2_1,u2_2,u2_3,u2_4,u2_5⟩:=cel6q Hs
    cases hat:Sp.atomAt s.stack k with
    | false =>
     rw [hat] at HAC
     have HNO:=η (show Sp.atomsTo s.stack 0 (Sp.takesN ⟨o,xn,xl⟩)=false by rw [HTT.out]; exact Sp.atoms_no hlt (by rw [Nat.zero_add]; exact hat))
     clear hat
     go_wp2_with (fail)
     refine (HAC.out).mono ?_
     rintro e' w3 ⟨rfl,hb⟩
     replace Hs:=bk1q Hs hb
     replace Hr:=bk1q Hr hb
     replace Hx:=bk1q Hx hb
     replace Hn:=bk1q Hn hb
     replace HBW:=bw1q HBW hb
     clear hb
     clear u2_0 u2_1 u2_2 u2_3 u2_4 u2_5
     have HV:Hid (.agg #[.bool false,.bool false,.int .i64 0,.int .i64 0,.bool false,.int .i64 0,.int .i64 0,.bool false,.int .i64 0,.int .i64 0,.int .i64 0,.int .i64 0,.int .i64 0,.int .i64 0]=V):=η (by rw [← HV0.out,Sp.needs_not HNO.out]; rfl)
     as_aux_lemma =>
      obtain ⟨Y1,Y2,Y3,Y4,Y5,Y6,Y7,Y8,Y9,Y10,Y11,Y12,Y13,Y14,e0,e1,e2,e3,e4,e5,e6,e7,e8,e9,e10,e11,e12,e13,f0,f1,f2,f3,f4,f5,f6,f7,f8,f9,f10,f11,f12,f13,g0,g1,g2,g3,g4,g5,g6,g7,g8,g9,g10,g11,g12,g13,HR,hk⟩:=n14_steps Hr (.bool false) (.bool false) (.int .i64 0) (.int .i64 0) (.bool false) (.int .i64 0) (.int .i64 0) (.bool false) (.int .i64 0) (.int .i64 0) (.int .i64 0) (.int .i64 0) (.int .i64 0) (.int .i64 0)
      replace HBW:=bw2q HBW hk (by omega)
      obtain ⟨z0,z1,z2,z3,z4,z5,z6,z7,z8,z9,z10,z11,z12,z13⟩:=cel14q HR
      clear hk HR Hr
      go_wp2_with (exact bodyPost_ret (v:=.agg #[.bool false,.bool false,.int .i64 0,.int .i64 0,.bool false,.int .i64 0,.int .i64 0,.bool false,.int .i64 0,.int .i64 0,.int .i64 0,.int .i64 0,.int .i64 0,.int .i64 0]) (by simp [results,Tryz.results26,go_sem,z0,z1,z2,z3,z4,z5,z6,z7,z8,z9,z10,z11,z12,z13]) rfl ⟨congrArg _ HV.out,HBW.out⟩)
    | true =>
     rw [hat] at HAC
     have HAL2:Hid (∀ j,j < k+1→Sp.atomAt s.stack j=true):=η fun j hj=>by
      rcases Nat.lt_or_eq_of_le (Nat.le_of_lt_succ hj) with h | rfl
      ·exact HALL.out j h
      ·exact hat
     clear hat
     go_wp2_with (fail)
     refine (HAC.out).mono ?_
     rintro e' w3 ⟨rfl,hb⟩
     replace Hs:=bk1q Hs hb
     replace Hr:=bk1q Hr hb
     replace Hx:=bk1q Hx hb
     replace Hn:=bk1q Hn hb
     replace HBW:=bw1q HBW hb
     clear hb
     clear u2_0 u2_1 u2_2 u2_3 u2_4 u2_5
     go_wp2
     go_roundw
     case rel=>exact ⟨k+1,by omega,by go_num,HAL2,HBW,Hs,Hr,Hx,Hn⟩
     case measure=>simp [intOf]; omega
   ·have hkT:T=k:=by omega
    subst hkT
    have HAT0:=η (Sp.atoms_all HALL.out)
    have HALL0:=HALL
    clear HALL hk hlt
    have hTs:T≤sN:=by
     cases T with
     | zero=>exact Nat.zero_le _
     | succ j=>have:=HAT0.out; have h2:=Sp.atom_len (HALL0.out j (Nat.lt_succ_self j)); have:=HSN.out; omega
    obtain ⟨nb,hnb⟩:∃ nb,sN - T=nb:=⟨_,rfl⟩
    rw [show (sN:Int) - (T:Int)=(nb:Int) by omega] at Hn
    have HNB:=η (show nb≤sN∧sN=nb+T by omega)
    have HNL:=η (show s.stack.length - T=nb by rw [HSN.out]; exact hnb)
    clear hnb
    rcases (by omega:T=0∨T=1∨T=2) with rfl | rfl | rfl
    ·have HOPT:=η (HOP.out.1 rfl)
     have HNL0:=η (show s.stack.length=nb by have:=HNL.out; omega)
     obtain ⟨u2_0,u2_1,u2_2⟩:=cel3q Hx
     go_wp2_with (fail)
     refine (HT.out w2).mono ?_
     rintro e' w3 ⟨rfl,hb⟩
     replace Hs:=bk1q Hs hb
     replace Hr:=bk1q Hr hb
     replace Hx:=bk1q Hx hb
     replace Hn:=bk1q Hn hb
     replace HBW:=bw1q HBW hb
     clear hb
     clear u2_0 u2_1 u2_2
     obtain ⟨u3_0,u3_1,u3_2⟩:=cel3q Hx
     go_wp2_with (fail)
     refine (HT.out w3).mono ?_
     rintro e' w4 ⟨rfl,hb⟩
     replace Hs:=bk1q Hs hb
     replace Hr:=bk1q Hr hb
     replace Hx:=bk1q Hx hb
     replace Hn:=bk1q Hn hb
     replace HBW:=bw1q HBW hb
     clear hb
     clear u3_0 u3_1 u3_2
     obtain ⟨u4_0,u4_1,u4_2,u4_3,u4_4,u4_5,u4_6,u4_7,u4_8,u4_9,u4_10,u4_11,u4_12,u4_13⟩:=cel14q Hn
     obtain ⟨X5,hX5⟩:∃ X5,(w4.setCell ⟨b,0,none⟩ (.bool true))=X5:=⟨_,rfl⟩
     have hs_:=kp1q hX5
     have o5_0:w4.cell? ⟨b,0,none⟩=some (.bool false):=Hn.out.cell 0
     have r5_0:=Hn.out.frozen 0
     replace Hn:=put1_14_0q Hn hX5
     replace Hs:=bk2q Hs hs_ (by omega)
     replace Hr:=bk2q Hr hs_ (by omega)
     replace Hx:=bk2q Hx hs_ (by omega)
     replace HBW:=bw2q HBW hs_ (by omega)
     clear hs_
     have hop:=HOPT.out
     have q5:(o == 5)=false:=by rw [beq_eq_false_iff_ne]; omega
     have q6:(o == 6)=false:=by rw [beq_eq_false_iff_ne]; omega
     have q7:(o == 7)=false:=by rw [beq_eq_false_iff_ne]; omega
     have q9:(o == 9)=false:=by rw [beq_eq_false_iff_ne]; omega
     have n5:¬ o=5:=by omega
     have n6:¬ o=6:=by omega
     have n7:¬ o=7:=by omega
     have n9:¬ o=9:=by omega
     by_cases h1:o=1
     ·have q1:(o == 1)=true:=by rw [beq_iff_eq]; exact h1
      have q10:(o == 10)=false:=by rw [beq_eq_false_iff_ne]; omega
      have HO1:=η h1
      clear h1
      clear hop n5 n6 n7 n9
      obtain ⟨u6_0,u6_1,u6_2⟩:=cel3q Hx
      obtain ⟨X7,hX7⟩:∃ X7,(X5.setCell ⟨b,10,none⟩ (.int .i64 xl))=X7:=⟨_,rfl⟩
      have hs_:=kp1q hX7
      have o7_10:X5.cell? ⟨b,10,none⟩=some (.int .i64 (bt:Int)):=Hn.out.cell 10
      have r7_10:=Hn.out.frozen 10
      replace Hn:=put1_14_10q Hn hX7
      replace Hs:=bk2q Hs hs_ (by omega)
      replace Hr:=bk2q Hr hs_ (by omega)
      replace Hx:=bk2q Hx hs_ (by omega)
      replace HBW:=bw2q HBW hs_ (by omega)
      clear hs_
      have HV:Hid (.agg #[.bool true,.bool false,.int .i64 0,.int .i64 0,.bool false,.int .i64 0,.int .i64 0,.bool false,.int .i64 0,.int .i64 0,.int .i64 xl,.int .i64 (bt:Int),.int .i64 (bt:Int),.int .i64 (nb:Int)]=V):=η (by rw [← HV0.out,Sp.needs_t0 HTT.out,Sp.more_1 HO1.out]; rw [HNL0.out]; first | done | rfl)
      obtain ⟨u8_0,u8_1,u8_2,u8_3,u8_4,u8_5,u8_6,u8_7,u8_8,u8_9,u8_10,u8_11,u8_12,u8_13⟩:=cel14q Hn
      as_aux_lemma =>
       obtain ⟨Y1,Y2,Y3,Y4,Y5,Y6,Y7,Y8,Y9,Y10,Y11,Y12,Y13,Y14,e0,e1,e2,e3,e4,e5,e6,e7,e8,e9,e10,e11,e12,e13,f0,f1,f2,f3,f4,f5,f6,f7,f8,f9,f10,f11,f12,f13,g0,g1,g2,g3,g4,g5,g6,g7,g8,g9,g10,g11,g12,g13,HR,hk⟩:=n14_steps Hr (.bool true) (.bool false) (.int .i64 0) (.int .i64 0) (.bool false) (.int .i64 0) (.int .i64 0) (.bool false) (.int .i64 0) (.int .i64 0) (.int .i64 xl) (.int .i64 (bt:Int)) (.int .i64 (bt:Int)) (.int .i64 (nb:Int))
       replace HBW:=bw2q HBW hk (by omega)
       obtain ⟨z0,z1,z2,z3,z4,z5,z6,z7,z8,z9,z10,z11,z12,z13⟩:=cel14q HR
       clear hk HR Hr
       go_wp2_with (exact bodyPost_ret (v:=.agg #[.bool true,.bool false,.int .i64 0,.int .i64 0,.bool false,.int .i64 0,.int .i64 0,.bool false,.int .i64 0,.int .i64 0,.int .i64 xl,.int .i64 (bt:Int),.int .i64 (bt:Int),.int .i64 (nb:Int)]) (by simp [results,Tryz.results26,go_sem,z0,z1,z2,z3,z4,z5,z6,z7,z8,z9,z10,z11,z12,z13]) rfl ⟨congrArg _ HV.out,HBW.out⟩)
     ·have q1:(o == 1)=false:=by rw [beq_eq_false_iff_ne]; exact h1
      have n1:¬ o=1:=h1
      clear h1
      by_cases h10:o=10
      ·have q10:(o == 10)=true:=by rw [beq_iff_eq]; exact h10
       have HO10:=η h10
       clear h10
       clear hop n5 n6 n7 n9 n1
       obtain ⟨u6_0,u6_1,u6_2,u6_3,u6_4,u6_5,u6_6,u6_7,u6_8,u6_9,u6_10,u6_11,u6_12,u6_13⟩:=cel14q Hn
       obtain ⟨u7_0,u7_1,u7_2,u7_3,u7_4,u7_5⟩:=cel6q Hs
       obtain ⟨u8_0,u8_1,u8_2⟩:=cel3q Hx
       have hfc:=HFR.out nb X5 HBW.out (by have:=HNB.out; omega)
       cases hf:Sp.frameAt s.stack nb with
       | none =>
        rw [hf] at hfc
        have HFC:=η hfc
        simp only [frI] at HFC
        have HF:=η hf
        clear hf hfc
        go_wp2_with (fail)
        refine (HFC.out).mono ?_
        rintro e' w6 ⟨rfl,hb⟩
        replace Hs:=bk1q Hs hb
        replace Hr:=bk1q Hr hb
        replace Hx:=bk1q Hx hb
        replace Hn:=bk1q Hn hb
        replace HBW:=bw1q HBW hb
        clear hb
        clear u4_0 u4_1 u4_2 u4_3 u4_4 u4_5 u4_6 u4_7 u4_8 u4_9 u4_10 u4_11 u4_12 u4_13 o5_0 r5_0 u6_0 u6_1 u6_2 u6_3 u6_4 u6_5 u6_6 u6_7 u6_8 u6_9 u6_10 u6_11 u6_12 u6_13 u7_0 u7_1 u7_2 u7_3 u7_4 u7_5 u8_0 u8_1 u8_2
        have HV:Hid (.agg #[.bool false,.bool false,.int .i64 0,.int .i64 0,.bool false,.int .i64 0,.int .i64 0,.bool false,.int .i64 0,.int .i64 0,.int .i64 0,.int .i64 0,.int .i64 0,.int .i64 0]=V):=η (by rw [← HV0.out,Sp.needs_t0 HTT.out,Sp.more_10n HO10.out (by show Sp.frameAt s.stack (s.stack.length)=_; rw [HNL0.out]; exact HF.out)]; rfl)
        as_aux_lemma =>
         obtain ⟨Y1,Y2,Y3,Y4,Y5,Y6,Y7,Y8,Y9,Y10,Y11,Y12,Y13,Y14,e0,e1,e2,e3,e4,e5,e6,e7,e8,e9,e10,e11,e12,e13,f0,f1,f2,f3,f4,f5,f6,f7,f8,f9,f10,f11,f12,f13,g0,g1,g2,g3,g4,g5,g6,g7,g8,g9,g10,g11,g12,g13,HR,hk⟩:=n14_steps Hr (.bool false) (.bool false) (.int .i64 0) (.int .i64 0) (.bool false) (.int .i64 0) (.int .i64 0) (.bool false) (.int .i64 0) (.int .i64 0) (.int .i64 0) (.int .i64 0) (.int .i64 0) (.int .i64 0)
         replace HBW:=bw2q HBW hk (by omega)
         obtain ⟨z0,z1,z2,z3,z4,z5,z6,z7,z8,z9,z10,z11,z12,z13⟩:=cel14q HR
         clear hk HR Hr
         go_wp2_with (exact bodyPost_ret (v:=.agg #[.bool false,.bool false,.int .i64 0,.int .i64 0,.bool false,.int .i64 0,.int .i64 0,.bool false,.int .i64 0,.int .i64 0,.int .i64 0,.int .i64 0,.int .i64 0,.int .i64 0]) (by simp [results,Tryz.results26,go_sem,z0,z1,z2,z3,z4,z5,z6,z7,z8,z9,z10,z11,z12,z13]) rfl ⟨congrArg _ HV.out,HBW.out⟩)
       | some i =>
        rw [hf] at hfc
        have HFC:=η hfc
        simp only [frI] at HFC
        have HF:=η hf
        have hi:=(Sp.frameAt_le _ hf).1
        clear hf hfc
        have his:i < sN:=by have:=HNB.out; omega
        go_wp2_with (fail)
        refine (HFC.out).mono ?_
        rintro e' w6 ⟨rfl,hb⟩
        replace Hs:=bk1q Hs hb
        replace Hr:=bk1q Hr hb
        replace Hx:=bk1q Hx hb
        replace Hn:=bk1q Hn hb
        replace HBW:=bw1q HBW hb
        clear hb
        clear u4_0 u4_1 u4_2 u4_3 u4_4 u4_5 u4_6 u4_7 u4_8 u4_9 u4_10 u4_11 u4_12 u4_13 o5_0 r5_0 u6_0 u6_1 u6_2 u6_3 u6_4 u6_5 u6_6 u6_7 u6_8 u6_9 u6_10 u6_11 u6_12 u6_13 u7_0 u7_1 u7_2 u7_3 u7_4 u7_5 u8_0 u8_1 u8_2
        obtain ⟨ra,r,hra,hrb,hr,r0,r1,r2⟩:=srow_at (HRS.out.below HBW.out) (show i < s.stack.length by rw [HSN.out]; exact his)
        subst hra
        obtain ⟨rr,rv,rl⟩:=r
        dsimp only at r0 r1 r2
        have HRR:=η hr
        clear hr
        obtain ⟨u9_0,u9_1,u9_2,u9_3,u9_4,u9_5⟩:=cel6q Hs
        obtain ⟨u10_0,u10_1,u10_2,u10_3,u10_4,u10_5,u10_6,u10_7,u10_8,u10_9,u10_10,u10_11,u10_12,u10_13⟩:=cel14q Hn
        obtain ⟨X11,hX11⟩:∃ X11,(((w6.setCell ⟨b,7,none⟩ (.bool rr)).setCell ⟨b,8,none⟩ (.int .i64 rv)).setCell ⟨b,9,none⟩ (.int .i64 rl))=X11:=⟨_,rfl⟩
        have hs_:=kp3_7q hX11
        have o11_7:w6.cell? ⟨b,7,none⟩=some (.bool false):=Hn.out.cell 7
        have r11_7:=Hn.out.frozen 7
        have o11_8:w6.cell? ⟨b,8,none⟩=some (.int .i64 0):=Hn.out.cell 8
        have r11_8:=Hn.out.frozen 8
        have o11_9:w6.cell? ⟨b,9,none⟩=some (.int .i64 0):=Hn.out.cell 9
        have r11_9:=Hn.out.frozen 9
        replace Hn:=put3_14_7q Hn hX11
        replace Hs:=bk2q Hs hs_ (by omega)
        replace Hr:=bk2q Hr hs_ (by omega)
        replace Hx:=bk2q Hx hs_ (by omega)
        replace HBW:=bw2q HBW hs_ (by omega)
        clear hs_
        obtain ⟨u12_0,u12_1,u12_2,u12_3,u12_4,u12_5,u12_6,u12_7,u12_8,u12_9,u12_10,u12_11,u12_12,u12_13⟩:=cel14q Hn
        obtain ⟨X13,hX13⟩:∃ X13,(X11.setCell ⟨b,11,none⟩ (.int .i64 rl))=X13:=⟨_,rfl⟩
        have hs_:=kp1q hX13
        have o13_11:X11.cell? ⟨b,11,none⟩=some (.int .i64 (bt:Int)):=Hn.out.cell 11
        have r13_11:=Hn.out.frozen 11
        replace Hn:=put1_14_11q Hn hX13
        replace Hs:=bk2q Hs hs_ (by omega)
        replace Hr:=bk2q Hr hs_ (by omega)
        replace Hx:=bk2q Hx hs_ (by omega)
        replace HBW:=bw2q HBW hs_ (by omega)
        clear hs_
        obtain ⟨X14,hX14⟩:∃ X14,(X13.setCell ⟨b,13,none⟩ (.int .i64 (i:Int)))=X14:=⟨_,rfl⟩
        have hs_:=kp1q hX14
        have o14_13:X13.cell? ⟨b,13,none⟩=some (.int .i64 (nb:Int)):=Hn.out.cell 13
        have r14_13:=Hn.out.frozen 13
        replace Hn:=put1_14_13q Hn hX14
        replace Hs:=bk2q Hs hs_ (by omega)
        replace Hr:=bk2q Hr hs_ (by omega)
        replace Hx:=bk2q Hx hs_ (by omega)
        replace HBW:=bw2q HBW hs_ (by omega)
        clear hs_
        have HV:Hid (.agg #[.bool true,.bool false,.int .i64 0,.int .i64 0,.bool false,.int .i64 0,.int .i64 0,.bool rr,.int .i64 rv,.int .i64 rl,.int .i64 (bt:Int),.int .i64 rl,.int .i64 (bt:Int),.int .i64 (i:Int)]=V):=η (by rw [← HV0.out,Sp.needs_t0 HTT.out,Sp.more_10s HO10.out (by show Sp.frameAt s.stack (s.stack.length)=_; rw [HNL0.out]; exact HF.out) HRR.out]; first | done | rfl)
        obtain ⟨u15_0,u15_1,u15_2,u15_3,u15_4,u15_5,u15_6,u15_7,u15_8,u15_9,u15_10,u15_11,u15_12,u15_13⟩:=cel14q Hn
        as_aux_lemma =>
         obtain ⟨Y1,Y2,Y3,Y4,Y5,Y6,Y7,Y8,Y9,Y10,Y11,Y12,Y13,Y14,e0,e1,e2,e3,e4,e5,e6,e7,e8,e9,e10,e11,e12,e13,f0,f1,f2,f3,f4,f5,f6,f7,f8,f9,f10,f11,f12,f13,g0,g1,g2,g3,g4,g5,g6,g7,g8,g9,g10,g11,g12,g13,HR,hk⟩:=n14_steps Hr (.bool true) (.bool false) (.int .i64 0) (.int .i64 0) (.bool false) (.int .i64 0) (.int .i64 0) (.bool rr) (.int .i64 rv) (.int .i64 rl) (.int .i64 (bt:Int)) (.int .i64 rl) (.int .i64 (bt:Int)) (.int .i64 (i:Int))
         replace HBW:=bw2q HBW hk (by omega)
         obtain ⟨z0,z1,z2,z3,z4,z5,z6,z7,z8,z9,z10,z11,z12,z13⟩:=cel14q HR
         clear hk HR Hr
         go_wp2_with (exact bodyPost_ret (v:=.agg #[.bool true,.bool false,.int .i64 0,.int .i64 0,.bool false,.int .i64 0,.int .i64 0,.bool rr,.int .i64 rv,.int .i64 rl,.int .i64 (bt:Int),.int .i64 rl,.int .i64 (bt:Int),.int .i64 (i:Int)]) (by simp [results,Tryz.results26,go_sem,z0,z1,z2,z3,z4,z5,z6,z7,z8,z9,z10,z11,z12,z13]) rfl ⟨congrArg _ HV.out,HBW.out⟩)
      ·have q10:(o == 10)=false:=by rw [beq_eq_false_iff_ne]; exact h10
       have n10:¬ o=10:=h10
       clear h10
       have HNO:=η (show ¬ o=1∧¬ o=5∧¬ o=6∧¬ o=7∧¬ o=9∧¬ o=10 from ⟨n1,n5,n6,n7,n9,n10⟩)
       clear n1 n5 n6 n7 n9 n10 hop
       obtain ⟨u6_0,u6_1,u6_2⟩:=cel3q Hx
       have HV:Hid (.agg #[.bool true,.bool false,.int .i64 0,.int .i64 0,.bool false,.int .i64 0,.int .i64 0,.bool false,.int .i64 0,.int .i64 0,.int .i64 (bt:Int),.int .i64 (bt:Int),.int .i64 (bt:Int),.int .i64 (nb:Int)]=V):=η (by rw [← HV0.out,Sp.needs_t0 HTT.out,Sp.more_no HNO.out.1 HNO.out.2.1 HNO.out.2.2.1 HNO.out.2.2.2.1 HNO.out.2.2.2.2.1 HNO.out.2.2.2.2.2]; rw [HNL0.out]; first | done | rfl)
       obtain ⟨u7_0,u7_1,u7_2,u7_3,u7_4,u7_5,u7_6,u7_7,u7_8,u7_9,u7_10,u7_11,u7_12,u7_13⟩:=cel14q Hn
       as_aux_lemma =>
        obtain ⟨Y1,Y2,Y3,Y4,Y5,Y6,Y7,Y8,Y9,Y10,Y11,Y12,Y13,Y14,e0,e1,e2,e3,e4,e5,e6,e7,e8,e9,e10,e11,e12,e13,f0,f1,f2,f3,f4,f5,f6,f7,f8,f9,f10,f11,f12,f13,g0,g1,g2,g3,g4,g5,g6,g7,g8,g9,g10,g11,g12,g13,HR,hk⟩:=n14_steps Hr (.bool true) (.bool false) (.int .i64 0) (.int .i64 0) (.bool false) (.int .i64 0) (.int .i64 0) (.bool false) (.int .i64 0) (.int .i64 0) (.int .i64 (bt:Int)) (.int .i64 (bt:Int)) (.int .i64 (bt:Int)) (.int .i64 (nb:Int))
        replace HBW:=bw2q HBW hk (by omega)
        obtain ⟨z0,z1,z2,z3,z4,z5,z6,z7,z8,z9,z10,z11,z12,z13⟩:=cel14q HR
        clear hk HR Hr
        go_wp2_with (exact bodyPost_ret (v:=.agg #[.bool true,.bool false,.int .i64 0,.int .i64 0,.bool false,.int .i64 0,.int .i64 0,.bool false,.int .i64 0,.int .i64 0,.int .i64 (bt:Int),.int .i64 (bt:Int),.int .i64 (bt:Int),.int .i64 (nb:Int)]) (by simp [results,Tryz.results26,go_sem,z0,z1,z2,z3,z4,z5,z6,z7,z8,z9,z10,z11,z12,z13]) rfl ⟨congrArg _ HV.out,HBW.out⟩)
    ·have HOPT:=η (HOP.out.2.1 rfl)
     obtain ⟨u2_0,u2_1,u2_2⟩:=cel3q Hx
     go_wp2_with (fail)
     refine (HT.out w2).mono ?_
     rintro e' w3 ⟨rfl,hb⟩
     replace Hs:=bk1q Hs hb
     replace Hr:=bk1q Hr hb
     replace Hx:=bk1q Hx hb
     replace Hn:=bk1q Hn hb
     replace HBW:=bw1q HBW hb
     clear hb
     clear u2_0 u2_1 u2_2
     have hsn1:(sN:Int) - 1=(nb:Int):=by have:=HNB.out; omega
     have hnbs:nb < sN:=by have:=HNB.out; omega
     obtain ⟨ad,y,hsA,hab,hy,y0,y1,y2⟩:=srow_at (HRS.out.below HBW.out) (show nb < s.stack.length by rw [HSN.out]; exact hnbs)
     subst hsA
     obtain ⟨yr,yv,yl⟩:=y
     dsimp only at y0 y1 y2
     have HY:=η (show s.stack[s.stack.length - 1]? = some ⟨yr,yv,yl⟩ by rw [HNL.out]; exact hy)
     clear hy
     obtain ⟨u3_0,u3_1,u3_2,u3_3,u3_4,u3_5⟩:=cel6q Hs
     obtain ⟨u4_0,u4_1,u4_2,u4_3,u4_4,u4_5,u4_6,u4_7,u4_8,u4_9,u4_10,u4_11,u4_12,u4_13⟩:=cel14q Hn
     obtain ⟨X5,hX5⟩:∃ X5,(((w3.setCell ⟨b,1,none⟩ (.bool yr)).setCell ⟨b,2,none⟩ (.int .i64 yv)).setCell ⟨b,3,none⟩ (.int .i64 yl))=X5:=⟨_,rfl⟩
     have hs_:=kp3_1q hX5
     have o5_1:w3.cell? ⟨b,1,none⟩=some (.bool false):=Hn.out.cell 1
     have r5_1:=Hn.out.frozen 1
     have o5_2:w3.cell? ⟨b,2,none⟩=some (.int .i64 0):=Hn.out.cell 2
     have r5_2:=Hn.out.frozen 2
     have o5_3:w3.cell? ⟨b,3,none⟩=some (.int .i64 0):=Hn.out.cell 3
     have r5_3:=Hn.out.frozen 3
     replace Hn:=put3_14_1q Hn hX5
     replace Hs:=bk2q Hs hs_ (by omega)
     replace Hr:=bk2q Hr hs_ (by omega)
     replace Hx:=bk2q Hx hs_ (by omega)
     replace HBW:=bw2q HBW hs_ (by omega)
     clear hs_
     obtain ⟨u6_0,u6_1,u6_2,u6_3,u6_4,u6_5,u6_6,u6_7,u6_8,u6_9,u6_10,u6_11,u6_12,u6_13⟩:=cel14q Hn
     obtain ⟨X7,hX7⟩:∃ X7,(X5.setCell ⟨b,10,none⟩ (.int .i64 yl))=X7:=⟨_,rfl⟩
     have hs_:=kp1q hX7
     have o7_10:X5.cell? ⟨b,10,none⟩=some (.int .i64 (bt:Int)):=Hn.out.cell 10
     have r7_10:=Hn.out.frozen 10
     replace Hn:=put1_14_10q Hn hX7
     replace Hs:=bk2q Hs hs_ (by omega)
     replace Hr:=bk2q Hr hs_ (by omega)
     replace Hx:=bk2q Hx hs_ (by omega)
     replace HBW:=bw2q HBW hs_ (by omega)
     clear hs_
     obtain ⟨u8_0,u8_1,u8_2⟩:=cel3q Hx
     go_wp2_with (fail)
     refine (HT.out X7).mono ?_
     rintro e' w4 ⟨rfl,hb⟩
     replace Hs:=bk1q Hs hb
     replace Hr:=bk1q Hr hb
     replace Hx:=bk1q Hx hb
     replace Hn:=bk1q Hn hb
     replace HBW:=bw1q HBW hb
     clear hb
     clear u3_0 u3_1 u3_2 u3_3 u3_4 u3_5 u4_0 u4_1 u4_2 u4_3 u4_4 u4_5 u4_6 u4_7 u4_8 u4_9 u4_10 u4_11 u4_12 u4_13 o5_1 r5_1 o5_2 r5_2 o5_3 r5_3 u6_0 u6_1 u6_2 u6_3 u6_4 u6_5 u6_6 u6_7 u6_8 u6_9 u6_10 u6_11 u6_12 u6_13 o7_10 r7_10 u8_0 u8_1 u8_2
     clear y0 y1 y2
     obtain ⟨u9_0,u9_1,u9_2,u9_3,u9_4,u9_5,u9_6,u9_7,u9_8,u9_9,u9_10,u9_11,u9_12,u9_13⟩:=cel14q Hn
     obtain ⟨X10,hX10⟩:∃ X10,(w4.setCell ⟨b,0,none⟩ (.bool true))=X10:=⟨_,rfl⟩
     have hs_:=kp1q hX10
     have o10_0:w4.cell? ⟨b,0,none⟩=some (.bool false):=Hn.out.cell 0
     have r10_0:=Hn.out.frozen 0
     replace Hn:=put1_14_0q Hn hX10
     replace Hs:=bk2q Hs hs_ (by omega)
     replace Hr:=bk2q Hr hs_ (by omega)
     replace Hx:=bk2q Hx hs_ (by omega)
     replace HBW:=bw2q HBW hs_ (by omega)
     clear hs_
     have hop:=HOPT.out
     have q1:(o == 1)=false:=by rw [beq_eq_false_iff_ne]; omega
     have q6:(o == 6)=false:=by rw [beq_eq_false_iff_ne]; omega
     have n1:¬ o=1:=by omega
     have n6:¬ o=6:=by omega
     by_cases h5:o=5
     ·have q5:(o == 5)=true:=by rw [beq_iff_eq]; exact h5
      have q7:(o == 7)=false:=by rw [beq_eq_false_iff_ne]; omega
      have q9:(o == 9)=false:=by rw [beq_eq_false_iff_ne]; omega
      have q10:(o == 10)=false:=by rw [beq_eq_false_iff_ne]; omega
      have HO5:=η h5
      clear h5
      clear hop n1 n6
      by_cases hq:yv < 0∨(mN:Int)≤yv
      ·have hq':yv < 0∨(¬ yv < 0∧(mN:Int)≤yv):=by omega
       have HQ:=η (show yv < 0∨(s.mem.length:Int)≤yv by rw [HMN.out]; exact hq)
       clear hq
       rcases hq' with hq1 | ⟨hq1,hq2⟩
       all_goals
        obtain ⟨u11_0,u11_1,u11_2,u11_3,u11_4,u11_5⟩:=cel6q Hs
        obtain ⟨u12_0,u12_1,u12_2,u12_3,u12_4,u12_5,u12_6,u12_7,u12_8,u12_9,u12_10,u12_11,u12_12,u12_13⟩:=cel14q Hn
        obtain ⟨u13_0,u13_1,u13_2⟩:=cel3q Hx
        go_upto_region 22 with (fail)
        clear u9_0 u9_1 u9_2 u9_3 u9_4 u9_5 u9_6 u9_7 u9_8 u9_9 u9_10 u9_11 u9_12 u9_13 o10_0 r10_0 u11_0 u11_1 u11_2 u11_3 u11_4 u11_5 u12_0 u12_1 u12_2 u12_3 u12_4 u12_5 u12_6 u12_7 u12_8 u12_9 u12_10 u12_11 u12_12 u12_13 u13_0 u13_1 u13_2
        have HV:Hid (.agg #[.bool false,.bool false,.int .i64 0,.int .i64 0,.bool false,.int .i64 0,.int .i64 0,.bool false,.int .i64 0,.int .i64 0,.int .i64 0,.int .i64 0,.int .i64 0,.int .i64 0]=V):=η (by rw [← HV0.out,Sp.needs_t1 HTT.out HAT0.out HY.out,Sp.more_bad (.inl HO5.out) HQ.out]; rfl)
        as_aux_lemma =>
         obtain ⟨Y1,Y2,Y3,Y4,Y5,Y6,Y7,Y8,Y9,Y10,Y11,Y12,Y13,Y14,e0,e1,e2,e3,e4,e5,e6,e7,e8,e9,e10,e11,e12,e13,f0,f1,f2,f3,f4,f5,f6,f7,f8,f9,f10,f11,f12,f13,g0,g1,g2,g3,g4,g5,g6,g7,g8,g9,g10,g11,g12,g13,HR,hk⟩:=n14_steps Hr (.bool false) (.bool false) (.int .i64 0) (.int .i64 0) (.bool false) (.int .i64 0) (.int .i64 0) (.bool false) (.int .i64 0) (.int .i64 0) (.int .i64 0) (.int .i64 0) (.int .i64 0) (.int .i64 0)
         replace HBW:=bw2q HBW hk (by omega)
         obtain ⟨z0,z1,z2,z3,z4,z5,z6,z7,z8,z9,z10,z11,z12,z13⟩:=cel14q HR
         clear hk HR Hr
         go_wp2_with (exact bodyPost_ret (v:=.agg #[.bool false,.bool false,.int .i64 0,.int .i64 0,.bool false,.int .i64 0,.int .i64 0,.bool false,.int .i64 0,.int .i64 0,.int .i64 0,.int .i64 0,.int .i64 0,.int .i64 0]) (by simp [results,Tryz.results26,go_sem,z0,z1,z2,z3,z4,z5,z6,z7,z8,z9,z10,z11,z12,z13]) rfl ⟨congrArg _ HV.out,HBW.out⟩)
      ·obtain ⟨k,hk⟩:∃ k:Nat,yv=(k:Int):=⟨yv.toNat,by omega⟩
       have hkm:k < mN:=by omega
       have HQ:=η (show ¬ (yv < 0∨(s.mem.length:Int)≤yv) by rw [HMN.out]; exact hq)
       clear hq
       subst hk
       obtain ⟨ma,u,hmA,hmb,hu,u0,u1⟩:=arow_at (HRM.out.below HBW.out) (show k < s.mem.length by rw [HMN.out]; exact hkm)
       subst hmA
       obtain ⟨uv,ul⟩:=u
       dsimp only at u0 u1
       have HGD:=η (show s.mem.getD k ⟨0,0⟩=⟨uv,ul⟩ by rw [List.getD_eq_getElem?_getD,hu]; rfl)
       clear hu
       obtain ⟨u11_0,u11_1,u11_2,u11_3,u11_4,u11_5⟩:=cel6q Hs
       obtain ⟨u12_0,u12_1,u12_2,u12_3,u12_4,u12_5,u12_6,u12_7,u12_8,u12_9,u12_10,u12_11,u12_12,u12_13⟩:=cel14q Hn
       obtain ⟨u13_0,u13_1,u13_2⟩:=cel3q Hx
       obtain ⟨X14,hX14⟩:∃ X14,(X10.setCell ⟨b,11,none⟩ (.int .i64 ul))=X14:=⟨_,rfl⟩
       have hs_:=kp1q hX14
       have o14_11:X10.cell? ⟨b,11,none⟩=some (.int .i64 (bt:Int)):=Hn.out.cell 11
       have r14_11:=Hn.out.frozen 11
       replace Hn:=put1_14_11q Hn hX14
       replace Hs:=bk2q Hs hs_ (by omega)
       replace Hr:=bk2q Hr hs_ (by omega)
       replace Hx:=bk2q Hx hs_ (by omega)
       replace HBW:=bw2q HBW hs_ (by omega)
       clear hs_
       go_upto_region 42 with (fail)
       clear u9_0 u9_1 u9_2 u9_3 u9_4 u9_5 u9_6 u9_7 u9_8 u9_9 u9_10 u9_11 u9_12 u9_13 o10_0 r10_0 u11_0 u11_1 u11_2 u11_3 u11_4 u11_5 u12_0 u12_1 u12_2 u12_3 u12_4 u12_5 u12_6 u12_7 u12_8 u12_9 u12_10 u12_11 u12_12 u12_13 u13_0 u13_1 u13_2 o14_11 r14_11
       have HV:Hid (.agg #[.bool true,.bool yr,.int .i64 (k:Int),.int .i64 yl,.bool false,.int .i64 0,.int .i64 0,.bool false,.int .i64 0,.int .i64 0,.int .i64 yl,.int .i64 ul,.int .i64 (bt:Int),.int .i64 (nb:Int)]=V):=η (by rw [← HV0.out,Sp.needs_t1 HTT.out HAT0.out HY.out,Sp.more_5 HO5.out HQ.out]; dsimp only; rw [Int.toNat_natCast,HGD.out,HNL.out]; first | done | rfl)
       obtain ⟨u15_0,u15_1,u15_2,u15_3,u15_4,u15_5,u15_6,u15_7,u15_8,u15_9,u15_10,u15_11,u15_12,u15_13⟩:=cel14q Hn
       as_aux_lemma =>
        obtain ⟨Y1,Y2,Y3,Y4,Y5,Y6,Y7,Y8,Y9,Y10,Y11,Y12,Y13,Y14,e0,e1,e2,e3,e4,e5,e6,e7,e8,e9,e10,e11,e12,e13,f0,f1,f2,f3,f4,f5,f6,f7,f8,f9,f10,f11,f12,f13,g0,g1,g2,g3,g4,g5,g6,g7,g8,g9,g10,g11,g12,g13,HR,hk⟩:=n14_steps Hr (.bool true) (.bool yr) (.int .i64 (k:Int)) (.int .i64 yl) (.bool false) (.int .i64 0) (.int .i64 0) (.bool false) (.int .i64 0) (.int .i64 0) (.int .i64 yl) (.int .i64 ul) (.int .i64 (bt:Int)) (.int .i64 (nb:Int))
        replace HBW:=bw2q HBW hk (by omega)
        obtain ⟨z0,z1,z2,z3,z4,z5,z6,z7,z8,z9,z10,z11,z12,z13⟩:=cel14q HR
        clear hk HR Hr
        go_wp2_with (exact bodyPost_ret (v:=.agg #[.bool true,.bool yr,.int .i64 (k:Int),.int .i64 yl,.bool false,.int .i64 0,.int .i64 0,.bool false,.int .i64 0,.int .i64 0,.int .i64 yl,.int .i64 ul,.int .i64 (bt:Int),.int .i64 (nb:Int)]) (by simp [results,Tryz.results26,go_sem,z0,z1,z2,z3,z4,z5,z6,z7,z8,z9,z10,z11,z12,z13]) rfl ⟨congrArg _ HV.out,HBW.out⟩)
     ·have q5:(o == 5)=false:=by rw [beq_eq_false_iff_ne]; exact h5
      have n5:¬ o=5:=h5
      clear h5
      by_cases h7:o=7
      ·have q7:(o == 7)=true:=by rw [beq_iff_eq]; exact h7
       have q9:(o == 9)=false:=by rw [beq_eq_false_iff_ne]; omega
       have q10:(o == 10)=false:=by rw [beq_eq_false_iff_ne]; omega
       have HO7:=η h7
       clear h7
       clear hop n1 n6 n5
       by_cases hq:yv < 0∨12 < yv
       ·have hq':yv < 0∨(¬ yv < 0∧12 < yv):=by omega
        have HQ:=η hq
        clear hq
        rcases hq' with hq1 | ⟨hq1,hq2⟩
        all_goals
         obtain ⟨u11_0,u11_1,u11_2,u11_3,u11_4,u11_5,u11_6,u11_7,u11_8,u11_9,u11_10,u11_11,u11_12,u11_13⟩:=cel14q Hn
         obtain ⟨u12_0,u12_1,u12_2⟩:=cel3q Hx
         have HV:Hid (.agg #[.bool false,.bool false,.int .i64 0,.int .i64 0,.bool false,.int .i64 0,.int .i64 0,.bool false,.int .i64 0,.int .i64 0,.int .i64 0,.int .i64 0,.int .i64 0,.int .i64 0]=V):=η (by rw [← HV0.out,Sp.needs_t1 HTT.out HAT0.out HY.out,Sp.more_far (.inl HO7.out) HQ.out]; rfl)
         as_aux_lemma =>
          obtain ⟨Y1,Y2,Y3,Y4,Y5,Y6,Y7,Y8,Y9,Y10,Y11,Y12,Y13,Y14,e0,e1,e2,e3,e4,e5,e6,e7,e8,e9,e10,e11,e12,e13,f0,f1,f2,f3,f4,f5,f6,f7,f8,f9,f10,f11,f12,f13,g0,g1,g2,g3,g4,g5,g6,g7,g8,g9,g10,g11,g12,g13,HR,hk⟩:=n14_steps Hr (.bool false) (.bool false) (.int .i64 0) (.int .i64 0) (.bool false) (.int .i64 0) (.int .i64 0) (.bool false) (.int .i64 0) (.int .i64 0) (.int .i64 0) (.int .i64 0) (.int .i64 0) (.int .i64 0)
          replace HBW:=bw2q HBW hk (by omega)
          obtain ⟨z0,z1,z2,z3,z4,z5,z6,z7,z8,z9,z10,z11,z12,z13⟩:=cel14q HR
          clear hk HR Hr
          go_wp2_with (exact bodyPost_ret (v:=.agg #[.bool false,.bool false,.int .i64 0,.int .i64 0,.bool false,.int .i64 0,.int .i64 0,.bool false,.int .i64 0,.int .i64 0,.int .i64 0,.int .i64 0,.int .i64 0,.int .i64 0]) (by simp [results,Tryz.results26,go_sem,z0,z1,z2,z3,z4,z5,z6,z7,z8,z9,z10,z11,z12,z13]) rfl ⟨congrArg _ HV.out,HBW.out⟩)
       ·obtain ⟨M,hM⟩:∃ M:Nat,xn=(M:Int):=⟨xn.toNat,by have:=HOP.out.2.2.2.1; have:=HOP.out.2.2.2.2; have:=HO7.out; omega⟩
        have hM3:M≤3:=by have:=HOP.out.2.2.2.1; have:=HOP.out.2.2.2.2; have:=HO7.out; omega
        subst hM
        have HQ:=η hq
        have hq1:¬ yv < 0:=by omega
        have hq2:¬ 12 < yv:=by omega
        clear hq
        obtain ⟨u11_0,u11_1,u11_2,u11_3,u11_4,u11_5,u11_6,u11_7,u11_8,u11_9,u11_10,u11_11,u11_12,u11_13⟩:=cel14q Hn
        obtain ⟨u12_0,u12_1,u12_2⟩:=cel3q Hx
        go_wp2
        clear u9_0 u9_1 u9_2 u9_3 u9_4 u9_5 u9_6 u9_7 u9_8 u9_9 u9_10 u9_11 u9_12 u9_13 o10_0 r10_0 u11_0 u11_1 u11_2 u11_3 u11_4 u11_5 u11_6 u11_7 u11_8 u11_9 u11_10 u11_11 u11_12 u11_13 u12_0 u12_1 u12_2
        go_loopw [9] (fun i wr=>∃ k:Nat,k≤M∧i=.int .i64 k∧Hid (∀ j,j < k→Sp.atomAt s.stack (1+j)=true)∧Hid (Below w.heap.size w wr)∧Hid (Blk wr (w.heap.size+1) 35 #[.int .i64 (p:Int),.int .i64 pl,.slice (some cd) cN cc,.slice mA mN mc,.slice (some ad) sN sc,.slice oA oN oc])∧Hid (Blk wr (w.heap.size+2) 70 #[.bool false,.bool false,.int .i64 0,.int .i64 0,.bool false,.int .i64 0,.int .i64 0,.bool false,.int .i64 0,.int .i64 0,.int .i64 0,.int .i64 0,.int .i64 0,.int .i64 0])∧Hid (Blk wr (w.heap.size+3) 57 #[.int .i64 o,.int .i64 (M:Int),.int .i64 xl])∧Hid (Blk wr (b) 70 #[.bool true,.bool yr,.int .i64 yv,.int .i64 yl,.bool false,.int .i64 0,.int .i64 0,.bool false,.int .i64 0,.int .i64 0,.int .i64 yl,.int .i64 (bt:Int),.int .i64 (bt:Int),.int .i64 (nb:Int)])) (fun i _=>M - (intOf i).toNat)
        case atStart=>exact ⟨0,Nat.zero_le _,rfl,η fun j hj=>absurd hj (Nat.not_lt_zero _),HBW,Hs,Hr,Hx,Hn⟩
        case round =>
         clear HBW Hs Hr Hx Hn
         obtain ⟨k,hk,rfl,HALL,HBW,Hs,Hr,Hx,Hn⟩:=hrel
         obtain ⟨u13_0,u13_1,u13_2⟩:=cel3q Hx
         by_cases hlt:k < M
         ·have hac:=HAT.out (1+k) wr HBW.out (by omega)
          rw [show ((1+k:Nat):Int)=1+(k:Int) by omega] at hac
          have HAC:=η hac
          clear hac
          obtain ⟨u14_0,u14_1,u14_2,u14_3,u14_4,u14_5⟩:=cel6q Hs
          cases hat:Sp.atomAt s.stack (1+k) with
          | false =>
           rw [hat] at HAC
           have HNO:=η (show Sp.atomsTo s.stack 1 ((M:Int)).toNat=false by rw [Int.toNat_natCast]; exact Sp.atoms_no hlt hat)
           clear hat
           go_wp2_with (fail)
           refine (HAC.out).mono ?_
           rintro e' w5 ⟨rfl,hb⟩
           replace Hs:=bk1q Hs hb
           replace Hr:=bk1q Hr hb
           replace Hx:=bk1q Hx hb
           replace Hn:=bk1q Hn hb
           replace HBW:=bw1q HBW hb
           clear hb
           clear u13_0 u13_1 u13_2 u14_0 u14_1 u14_2 u14_3 u14_4 u14_5
           have HV:Hid (.agg #[.bool false,.bool false,.int .i64 0,.int .i64 0,.bool false,.int .i64 0,.int .i64 0,.bool false,.int .i64 0,.int .i64 0,.int .i64 0,.int .i64 0,.int .i64 0,.int .i64 0]=V):=η (by rw [← HV0.out,Sp.needs_t1 HTT.out HAT0.out HY.out,Sp.more_args (.inl HO7.out) HQ.out HNO.out]; rfl)
           as_aux_lemma =>
            obtain ⟨Y1,Y2,Y3,Y4,Y5,Y6,Y7,Y8,Y9,Y10,Y11,Y12,Y13,Y14,e0,e1,e2,e3,e4,e5,e6,e7,e8,e9,e10,e11,e12,e13,f0,f1,f2,f3,f4,f5,f6,f7,f8,f9,f10,f11,f12,f13,g0,g1,g2,g3,g4,g5,g6,g7,g8,g9,g10,g11,g12,g13,HR,hk⟩:=n14_steps Hr (.bool false) (.bool false) (.int .i64 0) (.int .i64 0) (.bool false) (.int .i64 0) (.int .i64 0) (.bool false) (.int .i64 0) (.int .i64 0) (.int .i64 0) (.int .i64 0) (.int .i64 0) (.int .i64 0)
            replace HBW:=bw2q HBW hk (by omega)
            obtain ⟨z0,z1,z2,z3,z4,z5,z6,z7,z8,z9,z10,z11,z12,z13⟩:=cel14q HR
            clear hk HR Hr
            go_wp2_with (exact bodyPost_ret (v:=.agg #[.bool false,.bool false,.int .i64 0,.int .i64 0,.bool false,.int .i64 0,.int .i64 0,.bool false,.int .i64 0,.int .i64 0,.int .i64 0,.int .i64 0,.int .i64 0,.int .i64 0]) (by simp [results,Tryz.results26,go_sem,z0,z1,z2,z3,z4,z5,z6,z7,z8,z9,z10,z11,z12,z13]) rfl ⟨congrArg _ HV.out,HBW.out⟩)
          | true =>
           rw [hat] at HAC
           have HAL2:Hid (∀ j,j < k+1→Sp.atomAt s.stack (1+j)=true):=η fun j hj=>by
            rcases Nat.lt_or_eq_of_le (Nat.le_of_lt_succ hj) with h | rfl
            ·exact HALL.out j h
            ·exact hat
           clear hat
           go_wp2_with (fail)
           refine (HAC.out).mono ?_
           rintro e' w5 ⟨rfl,hb⟩
           replace Hs:=bk1q Hs hb
           replace Hr:=bk1q Hr hb
           replace Hx:=bk1q Hx hb
           replace Hn:=bk1q Hn hb
           replace HBW:=bw1q HBW hb
           clear hb
           clear u13_0 u13_1 u13_2 u14_0 u14_1 u14_2 u14_3 u14_4 u14_5
           go_wp2
           go_roundw
           case rel=>exact ⟨k+1,by omega,by go_num,HAL2,HBW,Hs,Hr,Hx,Hn⟩
           case measure=>simp [intOf]; omega
         ·have HAL1:=η (show Sp.atomsTo s.stack 1 ((M:Int)).toNat=true by
           rw [Int.toNat_natCast]
           unfold Sp.atomsTo
           rw [List.all_eq_true]
           exact fun j hj=>HALL.out j (by have:=List.mem_range.1 hj; omega))
          clear HALL
          have HV:Hid (.agg #[.bool true,.bool yr,.int .i64 yv,.int .i64 yl,.bool false,.int .i64 0,.int .i64 0,.bool false,.int .i64 0,.int .i64 0,.int .i64 yl,.int .i64 (bt:Int),.int .i64 (bt:Int),.int .i64 (nb:Int)]=V):=η (by rw [← HV0.out,Sp.needs_t1 HTT.out HAT0.out HY.out,Sp.more_79 (.inl HO7.out) HQ.out HAL1.out]; rw [HNL.out]; first | done | rfl)
          obtain ⟨u14_0,u14_1,u14_2,u14_3,u14_4,u14_5,u14_6,u14_7,u14_8,u14_9,u14_10,u14_11,u14_12,u14_13⟩:=cel14q Hn
          as_aux_lemma =>
           obtain ⟨Y1,Y2,Y3,Y4,Y5,Y6,Y7,Y8,Y9,Y10,Y11,Y12,Y13,Y14,e0,e1,e2,e3,e4,e5,e6,e7,e8,e9,e10,e11,e12,e13,f0,f1,f2,f3,f4,f5,f6,f7,f8,f9,f10,f11,f12,f13,g0,g1,g2,g3,g4,g5,g6,g7,g8,g9,g10,g11,g12,g13,HR,hk⟩:=n14_steps Hr (.bool true) (.bool yr) (.int .i64 yv) (.int .i64 yl) (.bool false) (.int .i64 0) (.int .i64 0) (.bool false) (.int .i64 0) (.int .i64 0) (.int .i64 yl) (.int .i64 (bt:Int)) (.int .i64 (bt:Int)) (.int .i64 (nb:Int))
           replace HBW:=bw2q HBW hk (by omega)
           obtain ⟨z0,z1,z2,z3,z4,z5,z6,z7,z8,z9,z10,z11,z12,z13⟩:=cel14q HR
           clear hk HR Hr
           go_wp2_with (exact bodyPost_ret (v:=.agg #[.bool true,.bool yr,.int .i64 yv,.int .i64 yl,.bool false,.int .i64 0,.int .i64 0,.bool false,.int .i64 0,.int .i64 0,.int .i64 yl,.int .i64 (bt:Int),.int .i64 (bt:Int),.int .i64 (nb:Int)]) (by simp [results,Tryz.results26,go_sem,z0,z1,z2,z3,z4,z5,z6,z7,z8,z9,z10,z11,z12,z13]) rfl ⟨congrArg _ HV.out,HBW.out⟩)
      ·have q7:(o == 7)=false:=by rw [beq_eq_false_iff_ne]; exact h7
       have n7:¬ o=7:=h7
       clear h7
       by_cases h9:o=9
       ·have q9:(o == 9)=true:=by rw [beq_iff_eq]; exact h9
        have q10:(o == 10)=false:=by rw [beq_eq_false_iff_ne]; omega
        have HO9:=η h9
        clear h9
        clear hop n1 n6 n5 n7
        by_cases hq:yv < 0∨12 < yv
        ·have hq':yv < 0∨(¬ yv < 0∧12 < yv):=by omega
         have HQ:=η hq
         clear hq
         rcases hq' with hq1 | ⟨hq1,hq2⟩
         all_goals
          obtain ⟨u11_0,u11_1,u11_2,u11_3,u11_4,u11_5,u11_6,u11_7,u11_8,u11_9,u11_10,u11_11,u11_12,u11_13⟩:=cel14q Hn
          obtain ⟨u12_0,u12_1,u12_2⟩:=cel3q Hx
          have HV:Hid (.agg #[.bool false,.bool false,.int .i64 0,.int .i64 0,.bool false,.int .i64 0,.int .i64 0,.bool false,.int .i64 0,.int .i64 0,.int .i64 0,.int .i64 0,.int .i64 0,.int .i64 0]=V):=η (by rw [← HV0.out,Sp.needs_t1 HTT.out HAT0.out HY.out,Sp.more_far (.inr HO9.out) HQ.out]; rfl)
          as_aux_lemma =>
           obtain ⟨Y1,Y2,Y3,Y4,Y5,Y6,Y7,Y8,Y9,Y10,Y11,Y12,Y13,Y14,e0,e1,e2,e3,e4,e5,e6,e7,e8,e9,e10,e11,e12,e13,f0,f1,f2,f3,f4,f5,f6,f7,f8,f9,f10,f11,f12,f13,g0,g1,g2,g3,g4,g5,g6,g7,g8,g9,g10,g11,g12,g13,HR,hk⟩:=n14_steps Hr (.bool false) (.bool false) (.int .i64 0) (.int .i64 0) (.bool false) (.int .i64 0) (.int .i64 0) (.bool false) (.int .i64 0) (.int .i64 0) (.int .i64 0) (.int .i64 0) (.int .i64 0) (.int .i64 0)
           replace HBW:=bw2q HBW hk (by omega)
           obtain ⟨z0,z1,z2,z3,z4,z5,z6,z7,z8,z9,z10,z11,z12,z13⟩:=cel14q HR
           clear hk HR Hr
           go_wp2_with (exact bodyPost_ret (v:=.agg #[.bool false,.bool false,.int .i64 0,.int .i64 0,.bool false,.int .i64 0,.int .i64 0,.bool false,.int .i64 0,.int .i64 0,.int .i64 0,.int .i64 0,.int .i64 0,.int .i64 0]) (by simp [results,Tryz.results26,go_sem,z0,z1,z2,z3,z4,z5,z6,z7,z8,z9,z10,z11,z12,z13]) rfl ⟨congrArg _ HV.out,HBW.out⟩)
        ·obtain ⟨M,hM⟩:∃ M:Nat,xn=(M:Int):=⟨xn.toNat,by have:=HOP.out.2.2.2.1; have:=HOP.out.2.2.2.2; have:=HO9.out; omega⟩
         have hM3:M≤3:=by have:=HOP.out.2.2.2.1; have:=HOP.out.2.2.2.2; have:=HO9.out; omega
         subst hM
         have HQ:=η hq
         have hq1:¬ yv < 0:=by omega
         have hq2:¬ 12 < yv:=by omega
         clear hq
         obtain ⟨u11_0,u11_1,u11_2,u11_3,u11_4,u11_5,u11_6,u11_7,u11_8,u11_9,u11_10,u11_11,u11_12,u11_13⟩:=cel14q Hn
         obtain ⟨u12_0,u12_1,u12_2⟩:=cel3q Hx
         go_wp2
         clear u9_0 u9_1 u9_2 u9_3 u9_4 u9_5 u9_6 u9_7 u9_8 u9_9 u9_10 u9_11 u9_12 u9_13 o10_0 r10_0 u11_0 u11_1 u11_2 u11_3 u11_4 u11_5 u11_6 u11_7 u11_8 u11_9 u11_10 u11_11 u11_12 u11_13 u12_0 u12_1 u12_2
         go_loopw [9] (fun i wr=>∃ k:Nat,k≤M∧i=.int .i64 k∧Hid (∀ j,j < k→Sp.atomAt s.stack (1+j)=true)∧Hid (Below w.heap.size w wr)∧Hid (Blk wr (w.heap.size+1) 35 #[.int .i64 (p:Int),.int .i64 pl,.slice (some cd) cN cc,.slice mA mN mc,.slice (some ad) sN sc,.slice oA oN oc])∧Hid (Blk wr (w.heap.size+2) 70 #[.bool false,.bool false,.int .i64 0,.int .i64 0,.bool false,.int .i64 0,.int .i64 0,.bool false,.int .i64 0,.int .i64 0,.int .i64 0,.int .i64 0,.int .i64 0,.int .i64 0])∧Hid (Blk wr (w.heap.size+3) 57 #[.int .i64 o,.int .i64 (M:Int),.int .i64 xl])∧Hid (Blk wr (b) 70 #[.bool true,.bool yr,.int .i64 yv,.int .i64 yl,.bool false,.int .i64 0,.int .i64 0,.bool false,.int .i64 0,.int .i64 0,.int .i64 yl,.int .i64 (bt:Int),.int .i64 (bt:Int),.int .i64 (nb:Int)])) (fun i _=>M - (intOf i).toNat)
         case atStart=>exact ⟨0,Nat.zero_le _,rfl,η fun j hj=>absurd hj (Nat.not_lt_zero _),HBW,Hs,Hr,Hx,Hn⟩
         case round =>
          clear HBW Hs Hr Hx Hn
          obtain ⟨k,hk,rfl,HALL,HBW,Hs,Hr,Hx,Hn⟩:=hrel
          obtain ⟨u13_0,u13_1,u13_2⟩:=cel3q Hx
          by_cases hlt:k < M
          ·have hac:=HAT.out (1+k) wr HBW.out (by omega)
           rw [show ((1+k:Nat):Int)=1+(k:Int) by omega] at hac
           have HAC:=η hac
           clear hac
           obtain ⟨u14_0,u14_1,u14_2,u14_3,u14_4,u14_5⟩:=cel6q Hs
           cases hat:Sp.atomAt s.stack (1+k) with
           | false =>
            rw [hat] at HAC
            have HNO:=η (show Sp.atomsTo s.stack 1 ((M:Int)).toNat=false by rw [Int.toNat_natCast]; exact Sp.atoms_no hlt hat)
            clear hat
            go_wp2_with (fail)
            refine (HAC.out).mono ?_
            rintro e' w5 ⟨rfl,hb⟩
            replace Hs:=bk1q Hs hb
            replace Hr:=bk1q Hr hb
            replace Hx:=bk1q Hx hb
            replace Hn:=bk1q Hn hb
            replace HBW:=bw1q HBW hb
            clear hb
            clear u13_0 u13_1 u13_2 u14_0 u14_1 u14_2 u14_3 u14_4 u14_5
            have HV:Hid (.agg #[.bool false,.bool false,.int .i64 0,.int .i64 0,.bool false,.int .i64 0,.int .i64 0,.bool false,.int .i64 0,.int .i64 0,.int .i64 0,.int .i64 0,.int .i64 0,.int .i64 0]=V):=η (by rw [← HV0.out,Sp.needs_t1 HTT.out HAT0.out HY.out,Sp.more_args (.inr HO9.out) HQ.out HNO.out]; rfl)
            as_aux_lemma =>
             obtain ⟨Y1,Y2,Y3,Y4,Y5,Y6,Y7,Y8,Y9,Y10,Y11,Y12,Y13,Y14,e0,e1,e2,e3,e4,e5,e6,e7,e8,e9,e10,e11,e12,e13,f0,f1,f2,f3,f4,f5,f6,f7,f8,f9,f10,f11,f12,f13,g0,g1,g2,g3,g4,g5,g6,g7,g8,g9,g10,g11,g12,g13,HR,hk⟩:=n14_steps Hr (.bool false) (.bool false) (.int .i64 0) (.int .i64 0) (.bool false) (.int .i64 0) (.int .i64 0) (.bool false) (.int .i64 0) (.int .i64 0) (.int .i64 0) (.int .i64 0) (.int .i64 0) (.int .i64 0)
             replace HBW:=bw2q HBW hk (by omega)
             obtain ⟨z0,z1,z2,z3,z4,z5,z6,z7,z8,z9,z10,z11,z12,z13⟩:=cel14q HR
             clear hk HR Hr
             go_wp2_with (exact bodyPost_ret (v:=.agg #[.bool false,.bool false,.int .i64 0,.int .i64 0,.bool false,.int .i64 0,.int .i64 0,.bool false,.int .i64 0,.int .i64 0,.int .i64 0,.int .i64 0,.int .i64 0,.int .i64 0]) (by simp [results,Tryz.results26,go_sem,z0,z1,z2,z3,z4,z5,z6,z7,z8,z9,z10,z11,z12,z13]) rfl ⟨congrArg _ HV.out,HBW.out⟩)
           | true =>
            rw [hat] at HAC
            have HAL2:Hid (∀ j,j < k+1→Sp.atomAt s.stack (1+j)=true):=η fun j hj=>by
             rcases Nat.lt_or_eq_of_le (Nat.le_of_lt_succ hj) with h | rfl
             ·exact HALL.out j h
             ·exact hat
            clear hat
            go_wp2_with (fail)
            refine (HAC.out).mono ?_
            rintro e' w5 ⟨rfl,hb⟩
            replace Hs:=bk1q Hs hb
            replace Hr:=bk1q Hr hb
            replace Hx:=bk1q Hx hb
            replace Hn:=bk1q Hn hb
            replace HBW:=bw1q HBW hb
            clear hb
            clear u13_0 u13_1 u13_2 u14_0 u14_1 u14_2 u14_3 u14_4 u14_5
            go_wp2
            go_roundw
            case rel=>exact ⟨k+1,by omega,by go_num,HAL2,HBW,Hs,Hr,Hx,Hn⟩
            case measure=>simp [intOf]; omega
          ·have HAL1:=η (show Sp.atomsTo s.stack 1 ((M:Int)).toNat=true by
            rw [Int.toNat_natCast]
            unfold Sp.atomsTo
            rw [List.all_eq_true]
            exact fun j hj=>HALL.out j (by have:=List.mem_range.1 hj; omega))
           clear HALL
           have HV:Hid (.agg #[.bool true,.bool yr,.int .i64 yv,.int .i64 yl,.bool false,.int .i64 0,.int .i64 0,.bool false,.int .i64 0,.int .i64 0,.int .i64 yl,.int .i64 (bt:Int),.int .i64 (bt:Int),.int .i64 (nb:Int)]=V):=η (by rw [← HV0.out,Sp.needs_t1 HTT.out HAT0.out HY.out,Sp.more_79 (.inr HO9.out) HQ.out HAL1.out]; rw [HNL.out]; first | done | rfl)
           obtain ⟨u14_0,u14_1,u14_2,u14_3,u14_4,u14_5,u14_6,u14_7,u14_8,u14_9,u14_10,u14_11,u14_12,u14_13⟩:=cel14q Hn
           as_aux_lemma =>
            obtain ⟨Y1,Y2,Y3,Y4,Y5,Y6,Y7,Y8,Y9,Y10,Y11,Y12,Y13,Y14,e0,e1,e2,e3,e4,e5,e6,e7,e8,e9,e10,e11,e12,e13,f0,f1,f2,f3,f4,f5,f6,f7,f8,f9,f10,f11,f12,f13,g0,g1,g2,g3,g4,g5,g6,g7,g8,g9,g10,g11,g12,g13,HR,hk⟩:=n14_steps Hr (.bool true) (.bool yr) (.int .i64 yv) (.int .i64 yl) (.bool false) (.int .i64 0) (.int .i64 0) (.bool false) (.int .i64 0) (.int .i64 0) (.int .i64 yl) (.int .i64 (bt:Int)) (.int .i64 (bt:Int)) (.int .i64 (nb:Int))
            replace HBW:=bw2q HBW hk (by omega)
            obtain ⟨z0,z1,z2,z3,z4,z5,z6,z7,z8,z9,z10,z11,z12,z13⟩:=cel14q HR
            clear hk HR Hr
            go_wp2_with (exact bodyPost_ret (v:=.agg #[.bool true,.bool yr,.int .i64 yv,.int .i64 yl,.bool false,.int .i64 0,.int .i64 0,.bool false,.int .i64 0,.int .i64 0,.int .i64 yl,.int .i64 (bt:Int),.int .i64 (bt:Int),.int .i64 (nb:Int)]) (by simp [results,Tryz.results26,go_sem,z0,z1,z2,z3,z4,z5,z6,z7,z8,z9,z10,z11,z12,z13]) rfl ⟨congrArg _ HV.out,HBW.out⟩)
       ·have q9:(o == 9)=false:=by rw [beq_eq_false_iff_ne]; exact h9
        have n9:¬ o=9:=h9
        clear h9
        by_cases h10:o=10
        ·have q10:(o == 10)=true:=by rw [beq_iff_eq]; exact h10
         have HO10:=η h10
         clear h10
         clear hop n1 n6 n5 n7 n9
         obtain ⟨u11_0,u11_1,u11_2,u11_3,u11_4,u11_5,u11_6,u11_7,u11_8,u11_9,u11_10,u11_11,u11_12,u11_13⟩:=cel14q Hn
         obtain ⟨u12_0,u12_1,u12_2,u12_3,u12_4,u12_5⟩:=cel6q Hs
         obtain ⟨u13_0,u13_1,u13_2⟩:=cel3q Hx
         have hfc:=HFR.out nb X10 HBW.out (by have:=HNB.out; omega)
         cases hf:Sp.frameAt s.stack nb with
         | none =>
          rw [hf] at hfc
          have HFC:=η hfc
          simp only [frI] at HFC
          have HF:=η hf
          clear hf hfc
          go_wp2_with (fail)
          refine (HFC.out).mono ?_
          rintro e' w6 ⟨rfl,hb⟩
          replace Hs:=bk1q Hs hb
          replace Hr:=bk1q Hr hb
          replace Hx:=bk1q Hx hb
          replace Hn:=bk1q Hn hb
          replace HBW:=bw1q HBW hb
          clear hb
          clear u9_0 u9_1 u9_2 u9_3 u9_4 u9_5 u9_6 u9_7 u9_8 u9_9 u9_10 u9_11 u9_12 u9_13 o10_0 r10_0 u11_0 u11_1 u11_2 u11_3 u11_4 u11_5 u11_6 u11_7 u11_8 u11_9 u11_10 u11_11 u11_12 u11_13 u12_0 u12_1 u12_2 u12_3 u12_4 u12_5 u13_0 u13_1 u13_2
          have HV:Hid (.agg #[.bool false,.bool false,.int .i64 0,.int .i64 0,.bool false,.int .i64 0,.int .i64 0,.bool false,.int .i64 0,.int .i64 0,.int .i64 0,.int .i64 0,.int .i64 0,.int .i64 0]=V):=η (by rw [← HV0.out,Sp.needs_t1 HTT.out HAT0.out HY.out,Sp.more_10n HO10.out (by show Sp.frameAt s.stack (s.stack.length - 1)=_; rw [HNL.out]; exact HF.out)]; rfl)
          as_aux_lemma =>
           obtain ⟨Y1,Y2,Y3,Y4,Y5,Y6,Y7,Y8,Y9,Y10,Y11,Y12,Y13,Y14,e0,e1,e2,e3,e4,e5,e6,e7,e8,e9,e10,e11,e12,e13,f0,f1,f2,f3,f4,f5,f6,f7,f8,f9,f10,f11,f12,f13,g0,g1,g2,g3,g4,g5,g6,g7,g8,g9,g10,g11,g12,g13,HR,hk⟩:=n14_steps Hr (.bool false) (.bool false) (.int .i64 0) (.int .i64 0) (.bool false) (.int .i64 0) (.int .i64 0) (.bool false) (.int .i64 0) (.int .i64 0) (.int .i64 0) (.int .i64 0) (.int .i64 0) (.int .i64 0)
           replace HBW:=bw2q HBW hk (by omega)
           obtain ⟨z0,z1,z2,z3,z4,z5,z6,z7,z8,z9,z10,z11,z12,z13⟩:=cel14q HR
           clear hk HR Hr
           go_wp2_with (exact bodyPost_ret (v:=.agg #[.bool false,.bool false,.int .i64 0,.int .i64 0,.bool false,.int .i64 0,.int .i64 0,.bool false,.int .i64 0,.int .i64 0,.int .i64 0,.int .i64 0,.int .i64 0,.int .i64 0]) (by simp [results,Tryz.results26,go_sem,z0,z1,z2,z3,z4,z5,z6,z7,z8,z9,z10,z11,z12,z13]) rfl ⟨congrArg _ HV.out,HBW.out⟩)
         | some i =>
          rw [hf] at hfc
          have HFC:=η hfc
          simp only [frI] at HFC
          have HF:=η hf
          have hi:=(Sp.frameAt_le _ hf).1
          clear hf hfc
          have his:i < sN:=by have:=HNB.out; omega
          go_wp2_with (fail)
          refine (HFC.out).mono ?_
          rintro e' w6 ⟨rfl,hb⟩
          replace Hs:=bk1q Hs hb
          replace Hr:=bk1q Hr hb
          replace Hx:=bk1q Hx hb
          replace Hn:=bk1q Hn hb
          replace HBW:=bw1q HBW hb
          clear hb
          clear u9_0 u9_1 u9_2 u9_3 u9_4 u9_5 u9_6 u9_7 u9_8 u9_9 u9_10 u9_11 u9_12 u9_13 o10_0 r10_0 u11_0 u11_1 u11_2 u11_3 u11_4 u11_5 u11_6 u11_7 u11_8 u11_9 u11_10 u11_11 u11_12 u11_13 u12_0 u12_1 u12_2 u12_3 u12_4 u12_5 u13_0 u13_1 u13_2
          obtain ⟨ra,r,hra,hrb,hr,r0,r1,r2⟩:=srow_at (HRS.out.below HBW.out) (show i < s.stack.length by rw [HSN.out]; exact his)
          injection hra with hra
          subst hra
          obtain ⟨rr,rv,rl⟩:=r
          dsimp only at r0 r1 r2
          have HRR:=η hr
          clear hr
          obtain ⟨u14_0,u14_1,u14_2,u14_3,u14_4,u14_5⟩:=cel6q Hs
          obtain ⟨u15_0,u15_1,u15_2,u15_3,u15_4,u15_5,u15_6,u15_7,u15_8,u15_9,u15_10,u15_11,u15_12,u15_13⟩:=cel14q Hn
          obtain ⟨X16,hX16⟩:∃ X16,(((w6.setCell ⟨b,7,none⟩ (.bool rr)).setCell ⟨b,8,none⟩ (.int .i64 rv)).setCell ⟨b,9,none⟩ (.int .i64 rl))=X16:=⟨_,rfl⟩
          have hs_:=kp3_7q hX16
          have o16_7:w6.cell? ⟨b,7,none⟩=some (.bool false):=Hn.out.cell 7
          have r16_7:=Hn.out.frozen 7
          have o16_8:w6.cell? ⟨b,8,none⟩=some (.int .i64 0):=Hn.out.cell 8
          have r16_8:=Hn.out.frozen 8
          have o16_9:w6.cell? ⟨b,9,none⟩=some (.int .i64 0):=Hn.out.cell 9
          have r16_9:=Hn.out.frozen 9
          replace Hn:=put3_14_7q Hn hX16
          replace Hs:=bk2q Hs hs_ (by omega)
          replace Hr:=bk2q Hr hs_ (by omega)
          replace Hx:=bk2q Hx hs_ (by omega)
          replace HBW:=bw2q HBW hs_ (by omega)
          clear hs_
          obtain ⟨u17_0,u17_1,u17_2,u17_3,u17_4,u17_5,u17_6,u17_7,u17_8,u17_9,u17_10,u17_11,u17_12,u17_13⟩:=cel14q Hn
          obtain ⟨X18,hX18⟩:∃ X18,(X16.setCell ⟨b,11,none⟩ (.int .i64 rl))=X18:=⟨_,rfl⟩
          have hs_:=kp1q hX18
          have o18_11:X16.cell? ⟨b,11,none⟩=some (.int .i64 (bt:Int)):=Hn.out.cell 11
          have r18_11:=Hn.out.frozen 11
          replace Hn:=put1_14_11q Hn hX18
          replace Hs:=bk2q Hs hs_ (by omega)
          replace Hr:=bk2q Hr hs_ (by omega)
          replace Hx:=bk2q Hx hs_ (by omega)
          replace HBW:=bw2q HBW hs_ (by omega)
          clear hs_
          obtain ⟨X19,hX19⟩:∃ X19,(X18.setCell ⟨b,13,none⟩ (.int .i64 (i:Int)))=X19:=⟨_,rfl⟩
          have hs_:=kp1q hX19
          have o19_13:X18.cell? ⟨b,13,none⟩=some (.int .i64 (nb:Int)):=Hn.out.cell 13
          have r19_13:=Hn.out.frozen 13
          replace Hn:=put1_14_13q Hn hX19
          replace Hs:=bk2q Hs hs_ (by omega)
          replace Hr:=bk2q Hr hs_ (by omega)
          replace Hx:=bk2q Hx hs_ (by omega)
          replace HBW:=bw2q HBW hs_ (by omega)
          clear hs_
          have HV:Hid (.agg #[.bool true,.bool yr,.int .i64 yv,.int .i64 yl,.bool false,.int .i64 0,.int .i64 0,.bool rr,.int .i64 rv,.int .i64 rl,.int .i64 yl,.int .i64 rl,.int .i64 (bt:Int),.int .i64 (i:Int)]=V):=η (by rw [← HV0.out,Sp.needs_t1 HTT.out HAT0.out HY.out,Sp.more_10s HO10.out (by show Sp.frameAt s.stack (s.stack.length - 1)=_; rw [HNL.out]; exact HF.out) HRR.out]; first | done | rfl)
          obtain ⟨u20_0,u20_1,u20_2,u20_3,u20_4,u20_5,u20_6,u20_7,u20_8,u20_9,u20_10,u20_11,u20_12,u20_13⟩:=cel14q Hn
          as_aux_lemma =>
           obtain ⟨Y1,Y2,Y3,Y4,Y5,Y6,Y7,Y8,Y9,Y10,Y11,Y12,Y13,Y14,e0,e1,e2,e3,e4,e5,e6,e7,e8,e9,e10,e11,e12,e13,f0,f1,f2,f3,f4,f5,f6,f7,f8,f9,f10,f11,f12,f13,g0,g1,g2,g3,g4,g5,g6,g7,g8,g9,g10,g11,g12,g13,HR,hk⟩:=n14_steps Hr (.bool true) (.bool yr) (.int .i64 yv) (.int .i64 yl) (.bool false) (.int .i64 0) (.int .i64 0) (.bool rr) (.int .i64 rv) (.int .i64 rl) (.int .i64 yl) (.int .i64 rl) (.int .i64 (bt:Int)) (.int .i64 (i:Int))
           replace HBW:=bw2q HBW hk (by omega)
           obtain ⟨z0,z1,z2,z3,z4,z5,z6,z7,z8,z9,z10,z11,z12,z13⟩:=cel14q HR
           clear hk HR Hr
           go_wp2_with (exact bodyPost_ret (v:=.agg #[.bool true,.bool yr,.int .i64 yv,.int .i64 yl,.bool false,.int .i64 0,.int .i64 0,.bool rr,.int .i64 rv,.int .i64 rl,.int .i64 yl,.int .i64 rl,.int .i64 (bt:Int),.int .i64 (i:Int)]) (by simp [results,Tryz.results26,go_sem,z0,z1,z2,z3,z4,z5,z6,z7,z8,z9,z10,z11,z12,z13]) rfl ⟨congrArg _ HV.out,HBW.out⟩)
        ·have q10:(o == 10)=false:=by rw [beq_eq_false_iff_ne]; exact h10
         have n10:¬ o=10:=h10
         clear h10
         have HNO:=η (show ¬ o=1∧¬ o=5∧¬ o=6∧¬ o=7∧¬ o=9∧¬ o=10 from ⟨n1,n5,n6,n7,n9,n10⟩)
         clear n1 n5 n6 n7 n9 n10 hop
         obtain ⟨u11_0,u11_1,u11_2⟩:=cel3q Hx
         have HV:Hid (.agg #[.bool true,.bool yr,.int .i64 yv,.int .i64 yl,.bool false,.int .i64 0,.int .i64 0,.bool false,.int .i64 0,.int .i64 0,.int .i64 yl,.int .i64 (bt:Int),.int .i64 (bt:Int),.int .i64 (nb:Int)]=V):=η (by rw [← HV0.out,Sp.needs_t1 HTT.out HAT0.out HY.out,Sp.more_no HNO.out.1 HNO.out.2.1 HNO.out.2.2.1 HNO.out.2.2.2.1 HNO.out.2.2.2.2.1 HNO.out.2.2.2.2.2]; rw [HNL.out]; first | done | rfl)
         obtain ⟨u12_0,u12_1,u12_2,u12_3,u12_4,u12_5,u12_6,u12_7,u12_8,u12_9,u12_10,u12_11,u12_12,u12_13⟩:=cel14q Hn
         as_aux_lemma =>
          obtain ⟨Y1,Y2,Y3,Y4,Y5,Y6,Y7,Y8,Y9,Y10,Y11,Y12,Y13,Y14,e0,e1,e2,e3,e4,e5,e6,e7,e8,e9,e10,e11,e12,e13,f0,f1,f2,f3,f4,f5,f6,f7,f8,f9,f10,f11,f12,f13,g0,g1,g2,g3,g4,g5,g6,g7,g8,g9,g10,g11,g12,g13,HR,hk⟩:=n14_steps Hr (.bool true) (.bool yr) (.int .i64 yv) (.int .i64 yl) (.bool false) (.int .i64 0) (.int .i64 0) (.bool false) (.int .i64 0) (.int .i64 0) (.int .i64 yl) (.int .i64 (bt:Int)) (.int .i64 (bt:Int)) (.int .i64 (nb:Int))
          replace HBW:=bw2q HBW hk (by omega)
          obtain ⟨z0,z1,z2,z3,z4,z5,z6,z7,z8,z9,z10,z11,z12,z13⟩:=cel14q HR
          clear hk HR Hr
          go_wp2_with (exact bodyPost_ret (v:=.agg #[.bool true,.bool yr,.int .i64 yv,.int .i64 yl,.bool false,.int .i64 0,.int .i64 0,.bool false,.int .i64 0,.int .i64 0,.int .i64 yl,.int .i64 (bt:Int),.int .i64 (bt:Int),.int .i64 (nb:Int)]) (by simp [results,Tryz.results26,go_sem,z0,z1,z2,z3,z4,z5,z6,z7,z8,z9,z10,z11,z12,z13]) rfl ⟨congrArg _ HV.out,HBW.out⟩)
    ·have HOPT:=η (HOP.out.2.2.1 rfl)
     obtain ⟨u2_0,u2_1,u2_2⟩:=cel3q Hx
     go_wp2_with (fail)
     refine (HT.out w2).mono ?_
     rintro e' w3 ⟨rfl,hb⟩
     replace Hs:=bk1q Hs hb
     replace Hr:=bk1q Hr hb
     replace Hx:=bk1q Hx hb
     replace Hn:=bk1q Hn hb
     replace HBW:=bw1q HBW hb
     clear hb
     clear u2_0 u2_1 u2_2
     obtain ⟨kb,hkb⟩:∃ kb,kb=nb+1:=⟨_,rfl⟩
     have hsn1:(sN:Int) - 1=(kb:Int):=by have:=HNB.out; omega
     have hsn2:(sN:Int) - 2=(nb:Int):=by have:=HNB.out; omega
     have hkbs:kb < sN:=by have:=HNB.out; omega
     have hnbs:nb < sN:=by have:=HNB.out; omega
     obtain ⟨ad,y,hsA,hab,hy,y0,y1,y2⟩:=srow_at (HRS.out.below HBW.out) (show kb < s.stack.length by rw [HSN.out]; exact hkbs)
     subst hsA
     obtain ⟨yr,yv,yl⟩:=y
     dsimp only at y0 y1 y2
     have HY:=η (show s.stack[s.stack.length - 1]? = some ⟨yr,yv,yl⟩ by rw [show s.stack.length - 1=kb by have:=HNL.out; have:=HNB.out; have:=HSN.out; omega]; exact hy)
     clear hy hkb
     obtain ⟨u3_0,u3_1,u3_2,u3_3,u3_4,u3_5⟩:=cel6q Hs
     obtain ⟨u4_0,u4_1,u4_2,u4_3,u4_4,u4_5,u4_6,u4_7,u4_8,u4_9,u4_10,u4_11,u4_12,u4_13⟩:=cel14q Hn
     obtain ⟨X5,hX5⟩:∃ X5,(((w3.setCell ⟨b,1,none⟩ (.bool yr)).setCell ⟨b,2,none⟩ (.int .i64 yv)).setCell ⟨b,3,none⟩ (.int .i64 yl))=X5:=⟨_,rfl⟩
     have hs_:=kp3_1q hX5
     have o5_1:w3.cell? ⟨b,1,none⟩=some (.bool false):=Hn.out.cell 1
     have r5_1:=Hn.out.frozen 1
     have o5_2:w3.cell? ⟨b,2,none⟩=some (.int .i64 0):=Hn.out.cell 2
     have r5_2:=Hn.out.frozen 2
     have o5_3:w3.cell? ⟨b,3,none⟩=some (.int .i64 0):=Hn.out.cell 3
     have r5_3:=Hn.out.frozen 3
     replace Hn:=put3_14_1q Hn hX5
     replace Hs:=bk2q Hs hs_ (by omega)
     replace Hr:=bk2q Hr hs_ (by omega)
     replace Hx:=bk2q Hx hs_ (by omega)
     replace HBW:=bw2q HBW hs_ (by omega)
     clear hs_
     obtain ⟨u6_0,u6_1,u6_2,u6_3,u6_4,u6_5,u6_6,u6_7,u6_8,u6_9,u6_10,u6_11,u6_12,u6_13⟩:=cel14q Hn
     obtain ⟨X7,hX7⟩:∃ X7,(X5.setCell ⟨b,10,none⟩ (.int .i64 yl))=X7:=⟨_,rfl⟩
     have hs_:=kp1q hX7
     have o7_10:X5.cell? ⟨b,10,none⟩=some (.int .i64 (bt:Int)):=Hn.out.cell 10
     have r7_10:=Hn.out.frozen 10
     replace Hn:=put1_14_10q Hn hX7
     replace Hs:=bk2q Hs hs_ (by omega)
     replace Hr:=bk2q Hr hs_ (by omega)
     replace Hx:=bk2q Hx hs_ (by omega)
     replace HBW:=bw2q HBW hs_ (by omega)
     clear hs_
     obtain ⟨u8_0,u8_1,u8_2⟩:=cel3q Hx
     go_wp2_with (fail)
     refine (HT.out X7).mono ?_
     rintro e' w4 ⟨rfl,hb⟩
     replace Hs:=bk1q Hs hb
     replace Hr:=bk1q Hr hb
     replace Hx:=bk1q Hx hb
     replace Hn:=bk1q Hn hb
     replace HBW:=bw1q HBW hb
     clear hb
     clear u3_0 u3_1 u3_2 u3_3 u3_4 u3_5 u4_0 u4_1 u4_2 u4_3 u4_4 u4_5 u4_6 u4_7 u4_8 u4_9 u4_10 u4_11 u4_12 u4_13 o5_1 r5_1 o5_2 r5_2 o5_3 r5_3 u6_0 u6_1 u6_2 u6_3 u6_4 u6_5 u6_6 u6_7 u6_8 u6_9 u6_10 u6_11 u6_12 u6_13 o7_10 r7_10 u8_0 u8_1 u8_2
     clear y0 y1 y2
     obtain ⟨ae,z,hae,haz,hzz,y0,y1,y2⟩:=srow_at (HRS.out.below HBW.out) (show nb < s.stack.length by rw [HSN.out]; exact hnbs)
     injection hae with hae
     subst hae
     obtain ⟨zr,zv,zl⟩:=z
     dsimp only at y0 y1 y2
     have HZ:=η (show s.stack[s.stack.length - 2]? = some ⟨zr,zv,zl⟩ by rw [HNL.out]; exact hzz)
     clear hzz
     obtain ⟨u9_0,u9_1,u9_2,u9_3,u9_4,u9_5⟩:=cel6q Hs
     obtain ⟨u10_0,u10_1,u10_2,u10_3,u10_4,u10_5,u10_6,u10_7,u10_8,u10_9,u10_10,u10_11,u10_12,u10_13⟩:=cel14q Hn
     obtain ⟨X11,hX11⟩:∃ X11,(((w4.setCell ⟨b,4,none⟩ (.bool zr)).setCell ⟨b,5,none⟩ (.int .i64 zv)).setCell ⟨b,6,none⟩ (.int .i64 zl))=X11:=⟨_,rfl⟩
     have hs_:=kp3_4q hX11
     have o11_4:w4.cell? ⟨b,4,none⟩=some (.bool false):=Hn.out.cell 4
     have r11_4:=Hn.out.frozen 4
     have o11_5:w4.cell? ⟨b,5,none⟩=some (.int .i64 0):=Hn.out.cell 5
     have r11_5:=Hn.out.frozen 5
     have o11_6:w4.cell? ⟨b,6,none⟩=some (.int .i64 0):=Hn.out.cell 6
     have r11_6:=Hn.out.frozen 6
     replace Hn:=put3_14_4q Hn hX11
     replace Hs:=bk2q Hs hs_ (by omega)
     replace Hr:=bk2q Hr hs_ (by omega)
     replace Hx:=bk2q Hx hs_ (by omega)
     replace HBW:=bw2q HBW hs_ (by omega)
     clear hs_
     obtain ⟨u12_0,u12_1,u12_2,u12_3,u12_4,u12_5,u12_6,u12_7,u12_8,u12_9,u12_10,u12_11,u12_12,u12_13⟩:=cel14q Hn
     obtain ⟨X13,hX13⟩:∃ X13,(X11.setCell ⟨b,11,none⟩ (.int .i64 zl))=X13:=⟨_,rfl⟩
     have hs_:=kp1q hX13
     have o13_11:X11.cell? ⟨b,11,none⟩=some (.int .i64 (bt:Int)):=Hn.out.cell 11
     have r13_11:=Hn.out.frozen 11
     replace Hn:=put1_14_11q Hn hX13
     replace Hs:=bk2q Hs hs_ (by omega)
     replace Hr:=bk2q Hr hs_ (by omega)
     replace Hx:=bk2q Hx hs_ (by omega)
     replace HBW:=bw2q HBW hs_ (by omega)
     clear hs_
     obtain ⟨u14_0,u14_1,u14_2,u14_3,u14_4,u14_5,u14_6,u14_7,u14_8,u14_9,u14_10,u14_11,u14_12,u14_13⟩:=cel14q Hn
     obtain ⟨X15,hX15⟩:∃ X15,(X13.setCell ⟨b,0,none⟩ (.bool true))=X15:=⟨_,rfl⟩
     have hs_:=kp1q hX15
     have o15_0:X13.cell? ⟨b,0,none⟩=some (.bool false):=Hn.out.cell 0
     have r15_0:=Hn.out.frozen 0
     replace Hn:=put1_14_0q Hn hX15
     replace Hs:=bk2q Hs hs_ (by omega)
     replace Hr:=bk2q Hr hs_ (by omega)
     replace Hx:=bk2q Hx hs_ (by omega)
     replace HBW:=bw2q HBW hs_ (by omega)
     clear hs_
     have hop:=HOPT.out
     have q1:(o == 1)=false:=by rw [beq_eq_false_iff_ne]; omega
     have q5:(o == 5)=false:=by rw [beq_eq_false_iff_ne]; omega
     have q7:(o == 7)=false:=by rw [beq_eq_false_iff_ne]; omega
     have q9:(o == 9)=false:=by rw [beq_eq_false_iff_ne]; omega
     have q10:(o == 10)=false:=by rw [beq_eq_false_iff_ne]; omega
     have n1:¬ o=1:=by omega
     have n5:¬ o=5:=by omega
     have n7:¬ o=7:=by omega
     have n9:¬ o=9:=by omega
     have n10:¬ o=10:=by omega
     by_cases h6:o=6
     ·have q6:(o == 6)=true:=by rw [beq_iff_eq]; exact h6
      have HO6:=η h6
      clear h6
      clear hop n1 n5 n7 n9 n10
      by_cases hq:yv < 0∨(mN:Int)≤yv
      ·have hq':yv < 0∨(¬ yv < 0∧(mN:Int)≤yv):=by omega
       have HQ:=η (show yv < 0∨(s.mem.length:Int)≤yv by rw [HMN.out]; exact hq)
       clear hq
       rcases hq' with hq1 | ⟨hq1,hq2⟩
       all_goals
        obtain ⟨u16_0,u16_1,u16_2,u16_3,u16_4,u16_5⟩:=cel6q Hs
        obtain ⟨u17_0,u17_1,u17_2,u17_3,u17_4,u17_5,u17_6,u17_7,u17_8,u17_9,u17_10,u17_11,u17_12,u17_13⟩:=cel14q Hn
        obtain ⟨u18_0,u18_1,u18_2⟩:=cel3q Hx
        go_upto_region 22 with (fail)
        clear u9_0 u9_1 u9_2 u9_3 u9_4 u9_5 u10_0 u10_1 u10_2 u10_3 u10_4 u10_5 u10_6 u10_7 u10_8 u10_9 u10_10 u10_11 u10_12 u10_13 o11_4 r11_4 o11_5 r11_5 o11_6 r11_6 u12_0 u12_1 u12_2 u12_3 u12_4 u12_5 u12_6 u12_7 u12_8 u12_9 u12_10 u12_11 u12_12 u12_13 o13_11 r13_11 u14_0 u14_1 u14_2 u14_3 u14_4 u14_5 u14_6 u14_7 u14_8 u14_9 u14_10 u14_11 u14_12 u14_13 o15_0 r15_0 u16_0 u16_1 u16_2 u16_3 u16_4 u16_5 u17_0 u17_1 u17_2 u17_3 u17_4 u17_5 u17_6 u17_7 u17_8 u17_9 u17_10 u17_11 u17_12 u17_13 u18_0 u18_1 u18_2
        have HV:Hid (.agg #[.bool false,.bool false,.int .i64 0,.int .i64 0,.bool false,.int .i64 0,.int .i64 0,.bool false,.int .i64 0,.int .i64 0,.int .i64 0,.int .i64 0,.int .i64 0,.int .i64 0]=V):=η (by rw [← HV0.out,Sp.needs_t2 HTT.out HAT0.out HY.out HZ.out,Sp.more_bad (.inr HO6.out) HQ.out]; rfl)
        as_aux_lemma =>
         obtain ⟨Y1,Y2,Y3,Y4,Y5,Y6,Y7,Y8,Y9,Y10,Y11,Y12,Y13,Y14,e0,e1,e2,e3,e4,e5,e6,e7,e8,e9,e10,e11,e12,e13,f0,f1,f2,f3,f4,f5,f6,f7,f8,f9,f10,f11,f12,f13,g0,g1,g2,g3,g4,g5,g6,g7,g8,g9,g10,g11,g12,g13,HR,hk⟩:=n14_steps Hr (.bool false) (.bool false) (.int .i64 0) (.int .i64 0) (.bool false) (.int .i64 0) (.int .i64 0) (.bool false) (.int .i64 0) (.int .i64 0) (.int .i64 0) (.int .i64 0) (.int .i64 0) (.int .i64 0)
         replace HBW:=bw2q HBW hk (by omega)
         obtain ⟨z0,z1,z2,z3,z4,z5,z6,z7,z8,z9,z10,z11,z12,z13⟩:=cel14q HR
         clear hk HR Hr
         go_wp2_with (exact bodyPost_ret (v:=.agg #[.bool false,.bool false,.int .i64 0,.int .i64 0,.bool false,.int .i64 0,.int .i64 0,.bool false,.int .i64 0,.int .i64 0,.int .i64 0,.int .i64 0,.int .i64 0,.int .i64 0]) (by simp [results,Tryz.results26,go_sem,z0,z1,z2,z3,z4,z5,z6,z7,z8,z9,z10,z11,z12,z13]) rfl ⟨congrArg _ HV.out,HBW.out⟩)
      ·obtain ⟨k,hk⟩:∃ k:Nat,yv=(k:Int):=⟨yv.toNat,by omega⟩
       have hkm:k < mN:=by omega
       have HQ:=η (show ¬ (yv < 0∨(s.mem.length:Int)≤yv) by rw [HMN.out]; exact hq)
       clear hq
       subst hk
       obtain ⟨ma,u,hmA,hmb,hu,u0,u1⟩:=arow_at (HRM.out.below HBW.out) (show k < s.mem.length by rw [HMN.out]; exact hkm)
       subst hmA
       obtain ⟨uv,ul⟩:=u
       dsimp only at u0 u1
       have HGD:=η (show s.mem.getD k ⟨0,0⟩=⟨uv,ul⟩ by rw [List.getD_eq_getElem?_getD,hu]; rfl)
       clear hu
       obtain ⟨u16_0,u16_1,u16_2,u16_3,u16_4,u16_5⟩:=cel6q Hs
       obtain ⟨u17_0,u17_1,u17_2,u17_3,u17_4,u17_5,u17_6,u17_7,u17_8,u17_9,u17_10,u17_11,u17_12,u17_13⟩:=cel14q Hn
       obtain ⟨u18_0,u18_1,u18_2⟩:=cel3q Hx
       obtain ⟨X19,hX19⟩:∃ X19,(X15.setCell ⟨b,12,none⟩ (.int .i64 ul))=X19:=⟨_,rfl⟩
       have hs_:=kp1q hX19
       have o19_12:X15.cell? ⟨b,12,none⟩=some (.int .i64 (bt:Int)):=Hn.out.cell 12
       have r19_12:=Hn.out.frozen 12
       replace Hn:=put1_14_12q Hn hX19
       replace Hs:=bk2q Hs hs_ (by omega)
       replace Hr:=bk2q Hr hs_ (by omega)
       replace Hx:=bk2q Hx hs_ (by omega)
       replace HBW:=bw2q HBW hs_ (by omega)
       clear hs_
       go_upto_region 42 with (fail)
       clear u9_0 u9_1 u9_2 u9_3 u9_4 u9_5 u10_0 u10_1 u10_2 u10_3 u10_4 u10_5 u10_6 u10_7 u10_8 u10_9 u10_10 u10_11 u10_12 u10_13 o11_4 r11_4 o11_5 r11_5 o11_6 r11_6 u12_0 u12_1 u12_2 u12_3 u12_4 u12_5 u12_6 u12_7 u12_8 u12_9 u12_10 u12_11 u12_12 u12_13 o13_11 r13_11 u14_0 u14_1 u14_2 u14_3 u14_4 u14_5 u14_6 u14_7 u14_8 u14_9 u14_10 u14_11 u14_12 u14_13 o15_0 r15_0 u16_0 u16_1 u16_2 u16_3 u16_4 u16_5 u17_0 u17_1 u17_2 u17_3 u17_4 u17_5 u17_6 u17_7 u17_8 u17_9 u17_10 u17_11 u17_12 u17_13 u18_0 u18_1 u18_2 o19_12 r19_12
       have HV:Hid (.agg #[.bool true,.bool yr,.int .i64 (k:Int),.int .i64 yl,.bool zr,.int .i64 zv,.int .i64 zl,.bool false,.int .i64 0,.int .i64 0,.int .i64 yl,.int .i64 zl,.int .i64 ul,.int .i64 (nb:Int)]=V):=η (by rw [← HV0.out,Sp.needs_t2 HTT.out HAT0.out HY.out HZ.out,Sp.more_6 HO6.out HQ.out]; dsimp only; rw [Int.toNat_natCast,HGD.out,HNL.out]; first | done | rfl)
       obtain ⟨u20_0,u20_1,u20_2,u20_3,u20_4,u20_5,u20_6,u20_7,u20_8,u20_9,u20_10,u20_11,u20_12,u20_13⟩:=cel14q Hn
       as_aux_lemma =>
        obtain ⟨Y1,Y2,Y3,Y4,Y5,Y6,Y7,Y8,Y9,Y10,Y11,Y12,Y13,Y14,e0,e1,e2,e3,e4,e5,e6,e7,e8,e9,e10,e11,e12,e13,f0,f1,f2,f3,f4,f5,f6,f7,f8,f9,f10,f11,f12,f13,g0,g1,g2,g3,g4,g5,g6,g7,g8,g9,g10,g11,g12,g13,HR,hk⟩:=n14_steps Hr (.bool true) (.bool yr) (.int .i64 (k:Int)) (.int .i64 yl) (.bool zr) (.int .i64 zv) (.int .i64 zl) (.bool false) (.int .i64 0) (.int .i64 0) (.int .i64 yl) (.int .i64 zl) (.int .i64 ul) (.int .i64 (nb:Int))
        replace HBW:=bw2q HBW hk (by omega)
        obtain ⟨z0,z1,z2,z3,z4,z5,z6,z7,z8,z9,z10,z11,z12,z13⟩:=cel14q HR
        clear hk HR Hr
        go_wp2_with (exact bodyPost_ret (v:=.agg #[.bool true,.bool yr,.int .i64 (k:Int),.int .i64 yl,.bool zr,.int .i64 zv,.int .i64 zl,.bool false,.int .i64 0,.int .i64 0,.int .i64 yl,.int .i64 zl,.int .i64 ul,.int .i64 (nb:Int)]) (by simp [results,Tryz.results26,go_sem,z0,z1,z2,z3,z4,z5,z6,z7,z8,z9,z10,z11,z12,z13]) rfl ⟨congrArg _ HV.out,HBW.out⟩)
     ·have q6:(o == 6)=false:=by rw [beq_eq_false_iff_ne]; exact h6
      have n6:¬ o=6:=h6
      clear h6
      have HNO:=η (show ¬ o=1∧¬ o=5∧¬ o=6∧¬ o=7∧¬ o=9∧¬ o=10 from ⟨n1,n5,n6,n7,n9,n10⟩)
      clear n1 n5 n6 n7 n9 n10 hop
      obtain ⟨u16_0,u16_1,u16_2⟩:=cel3q Hx
      have HV:Hid (.agg #[.bool true,.bool yr,.int .i64 yv,.int .i64 yl,.bool zr,.int .i64 zv,.int .i64 zl,.bool false,.int .i64 0,.int .i64 0,.int .i64 yl,.int .i64 zl,.int .i64 (bt:Int),.int .i64 (nb:Int)]=V):=η (by rw [← HV0.out,Sp.needs_t2 HTT.out HAT0.out HY.out HZ.out,Sp.more_no HNO.out.1 HNO.out.2.1 HNO.out.2.2.1 HNO.out.2.2.2.1 HNO.out.2.2.2.2.1 HNO.out.2.2.2.2.2]; rw [HNL.out]; first | done | rfl)
      obtain ⟨u17_0,u17_1,u17_2,u17_3,u17_4,u17_5,u17_6,u17_7,u17_8,u17_9,u17_10,u17_11,u17_12,u17_13⟩:=cel14q Hn
      as_aux_lemma =>
       obtain ⟨Y1,Y2,Y3,Y4,Y5,Y6,Y7,Y8,Y9,Y10,Y11,Y12,Y13,Y14,e0,e1,e2,e3,e4,e5,e6,e7,e8,e9,e10,e11,e12,e13,f0,f1,f2,f3,f4,f5,f6,f7,f8,f9,f10,f11,f12,f13,g0,g1,g2,g3,g4,g5,g6,g7,g8,g9,g10,g11,g12,g13,HR,hk⟩:=n14_steps Hr (.bool true) (.bool yr) (.int .i64 yv) (.int .i64 yl) (.bool zr) (.int .i64 zv) (.int .i64 zl) (.bool false) (.int .i64 0) (.int .i64 0) (.int .i64 yl) (.int .i64 zl) (.int .i64 (bt:Int)) (.int .i64 (nb:Int))
       replace HBW:=bw2q HBW hk (by omega)
       obtain ⟨z0,z1,z2,z3,z4,z5,z6,z7,z8,z9,z10,z11,z12,z13⟩:=cel14q HR
       clear hk HR Hr
       go_wp2_with (exact bodyPost_ret (v:=.agg #[.bool true,.bool yr,.int .i64 yv,.int .i64 yl,.bool zr,.int .i64 zv,.int .i64 zl,.bool false,.int .i64 0,.int .i64 0,.int .i64 yl,.int .i64 zl,.int .i64 (bt:Int),.int .i64 (nb:Int)]) (by simp [results,Tryz.results26,go_sem,z0,z1,z2,z3,z4,z5,z6,z7,z8,z9,z10,z11,z12,z13]) rfl ⟨congrArg _ HV.out,HBW.out⟩)
end Go.Proofs.YtefimimcfkdoiaaGreatDoor
