import Derived.Test.YtjobifclmcdjcaaGreatDoorQZStqD
import Derived.Test.YtjobifclmcdjcaaGreatDoorQZTabZ
import Derived.Test.YtjobifclmcdjcaaGreatDoorQZCodE
import Derived.Test.YtjobifclmcdjcaaGreatDoorQZStpK
set_option maxHeartbeats 64000000
set_option maxRecDepth 100000
namespace Go.Proofs.YtjobifclmcdjcaaGreatDoor
open Go.RowKit Go.Shelf
attribute [local go_sem] Oper.semAt_some
theorem z8i(a b:Int)(w:World):(Instr.field 73 (.agg #[.int .i64 a,.int .i64 b]) 1).run Tryz.prog w=.ok (.int .i64 b) w:=by kernel_rfl
theorem z5d{N U:Option Addr}{names:List ByteArray}{up:List Nat}{c1 c2:Nat}{pv pl:Int}{cA mA sA oA:Option Addr}{cN cc mN mc sN sc oN oc:Nat}{s:St.State}{RA:Option Addr}{l:List Tb.PR}(rc:Nat)(w:World)(h:IsLat w w.heap.size (.agg #[.slice N names.length c1,.slice U up.length c2]) names up)(hs:Op10 w s pv pl cA cN cc mA mN mc sA sN sc oA oN oc)(hsm:SmallS s)(hr:RowsIn w w.heap.size RA l)(hf:∀ x ∈ l,Fits x) :
  Calls Tryz.prog 12 #[.agg #[.slice N names.length c1,.slice U up.length c2],.agg #[.slice RA l.length rc],.agg #[.int .i64 pv,.int .i64 pl,.slice cA cN cc,.slice mA mN mc,.slice sA sN sc,.slice oA oN oc]] w fun e w'=>e=.returned (.int .i64 (chk10 names up l s:Nat))∧Below w.heap.size w w':=by
 have hck:=fun W (hb:Below w.heap.size w W)=>z5a W ((h.below hb).more hb.size)
 rw[←z4i] at hck;have htc:=fun W (hb:Below w.heap.size w W)=>z2z rc W ((hr.below hb).more hb.size) hf
 have hrt:=fun W (hb:Below w.heap.size w W)=>q4n W ((h.below hb).more hb.size) (hs.below hb).isSt hsm
 obtain⟨a,ha⟩:∃ a,checkN names up=a:=⟨_,rfl⟩;obtain⟨b0,b,hb⟩:∃ b0 b,Tb.check l=(b0,b):=⟨_,_,rfl⟩;obtain⟨d,hd⟩:∃ d,St.rightB up.length s=d:=⟨_,rfl⟩;unfold chk10;rw[ha,hb,hd];rw[ha] at hck;rw[hb] at htc;rw[hd] at hrt;dsimp only at htc ⊢;obtain⟨res,hres⟩:∃ res,(if a=0 then(if b=0 then(if d=true then 0 else 1) else b) else a)=res:=⟨_,rfl⟩;rw[hres];have HRES:=η hres;have hfw:=z8i;have HCK:=η hck;have HTC:=η htc;have HRT:=η hrt;clear hres hck htc hrt h hs hsm hr hf ha hb hd;have hb1:=(Below.refl _ w).alloc (Nat.le_refl _) (.cells #[.slice N names.length c1,.slice U up.length c2] 25);have Bl:=Blk.new w 25 #[.slice N names.length c1,.slice U up.length c2];obtain⟨W1,hW1⟩:∃ W1,w.alloc (.cells #[.slice N names.length c1,.slice U up.length c2] 25)=W1:=⟨_,rfl⟩;have hz1:W1.heap.size=w.heap.size+1:=by rw[←hW1];simp
 rw[hW1] at hb1 Bl;have hb2:=hb1.alloc hb1.size (.cells #[.slice RA l.length rc] 28);replace Bl:=Bl.alloc (.cells #[.slice RA l.length rc] 28);have Bt:=Blk.new W1 28 #[.slice RA l.length rc];rw[hz1] at Bt;obtain⟨W2,hW2⟩:∃ W2,W1.alloc (.cells #[.slice RA l.length rc] 28)=W2:=⟨_,rfl⟩;have hz2:W2.heap.size=w.heap.size+2:=by rw[←hW2];simp;omega
 rw[hW2] at hb2 Bl Bt;have hb3:=hb2.alloc hb2.size (.cells #[.int .i64 pv,.int .i64 pl,.slice cA cN cc,.slice mA mN mc,.slice sA sN sc,.slice oA oN oc] 35);replace Bl:=Bl.alloc (.cells #[.int .i64 pv,.int .i64 pl,.slice cA cN cc,.slice mA mN mc,.slice sA sN sc,.slice oA oN oc] 35);replace Bt:=Bt.alloc (.cells #[.int .i64 pv,.int .i64 pl,.slice cA cN cc,.slice mA mN mc,.slice sA sN sc,.slice oA oN oc] 35);have Bs:=Blk.new W2 35 #[.int .i64 pv,.int .i64 pl,.slice cA cN cc,.slice mA mN mc,.slice sA sN sc,.slice oA oN oc];rw[hz2] at Bs;obtain⟨W3,hW3⟩:∃ W3,W2.alloc (.cells #[.int .i64 pv,.int .i64 pl,.slice cA cN cc,.slice mA mN mc,.slice sA sN sc,.slice oA oN oc] 35)=W3:=⟨_,rfl⟩;have hz3:W3.heap.size=w.heap.size+3:=by rw[←hW3];simp;omega
 rw[hW3] at hb3 Bl Bt Bs;have Hl:=η Bl;have Ht:=η Bt;have Hs:=η Bs;have HBW:=η hb3;clear hb1 hb2 hb3 Bl Bt Bs;obtain⟨u1_0,u1_1⟩:=ζ2 Hl.out;by_cases za:a=0
 ·subst za;go_enter Tryz.func12,Tryz.ntmps12;go_wp2_with (fail);refine(HCK.out W3 HBW.out).mono ?_;rintro e' w1 ⟨rfl,hb⟩;replace Hl:=bk1q Hl hb;replace Ht:=bk1q Ht hb;replace Hs:=bk1q Hs hb;replace HBW:=bw1q HBW hb;clear hb;clear u1_0 u1_1;have u2_0:w1.cell? ⟨w.heap.size+1,0,none⟩=some (.slice RA l.length rc):=Ht.out.cell 0;go_wp2_with (fail);refine(HTC.out w1 HBW.out).mono ?_;rintro e' w2 ⟨rfl,hb⟩;replace Hl:=bk1q Hl hb;replace Ht:=bk1q Ht hb;replace Hs:=bk1q Hs hb;replace HBW:=bw1q HBW hb;clear hb;clear u2_0;by_cases zb:b=0
  ·subst zb;obtain⟨u3_0,u3_1⟩:=ζ2 Hl.out;obtain⟨u4_0,u4_1,u4_2,u4_3,u4_4,u4_5⟩:=q02 Hs;go_wp2_with (fail);refine(HRT.out w2 HBW.out).mono ?_;rintro e' w3 ⟨rfl,hb⟩;replace Hl:=bk1q Hl hb;replace Ht:=bk1q Ht hb;replace Hs:=bk1q Hs hb;replace HBW:=bw1q HBW hb;clear hb;clear u3_0 u3_1 u4_0 u4_1 u4_2 u4_3 u4_4 u4_5;cases d with
   | true =>
    go_wp2;go_ret;exact⟨by rw[←HRES.out];rfl,HBW.out⟩
   | false =>
    go_wp2;go_ret;exact⟨by rw[←HRES.out];rfl,HBW.out⟩
  ·have hnz:((b:Int) != 0)=true:=by rw[bne_iff_ne];omega
   have u3_0:w2.cell? ⟨w.heap.size+1,0,none⟩=some (.slice RA l.length rc):=Ht.out.cell 0;go_wp2_with (fail);refine(HTC.out w2 HBW.out).mono ?_;rintro e' w3 ⟨rfl,hb⟩;replace Hl:=bk1q Hl hb;replace Ht:=bk1q Ht hb;replace Hs:=bk1q Hs hb;replace HBW:=bw1q HBW hb;clear hb;clear u3_0;go_wp2;go_ret;exact⟨congrArg (fun k:Nat=>Ending.returned (.int .i64 (k:Int))) (by rw[←HRES.out];simp[zb]),HBW.out⟩
 ·have hnz:((a:Int) != 0)=true:=by rw[bne_iff_ne];omega
  go_enter Tryz.func12,Tryz.ntmps12;go_wp2_with (fail);refine(HCK.out W3 HBW.out).mono ?_;rintro e' w1 ⟨rfl,hb⟩;replace Hl:=bk1q Hl hb;replace Ht:=bk1q Ht hb;replace Hs:=bk1q Hs hb;replace HBW:=bw1q HBW hb;clear hb;clear u1_0 u1_1;go_wp2;go_ret;exact⟨congrArg (fun k:Nat=>Ending.returned (.int .i64 (k:Int))) (by rw[←HRES.out,if_neg za]),HBW.out⟩
end Go.Proofs.YtjobifclmcdjcaaGreatDoor
