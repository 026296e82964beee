import Derived.Test.YtjobifclmcdjcaaGreatDoorQZTabK
import Derived.Test.YtjobifclmcdjcaaGreatDoorQZTabF
set_option maxHeartbeats 64000000
set_option maxRecDepth 100000
namespace Go.Proofs.YtjobifclmcdjcaaGreatDoor
open Go.RowKit Go.Shelf Go.Sort
attribute [local go_sem] Oper.semAt_some
namespace Tb
def usualL:List UInt8:=[10,9,110,111,111,112,32,58,32,116,114,117,101,32,59,32,98,111,116,32,59,32,112,99,32,59,10,9,112,117,115,104,32,58,32,116,114,117,101,32,59,32,111,110,101,32,59,32,112,99,32,59,10,9,112,111,112,32,58,32] ++
 [116,114,117,101,32,59,32,98,111,116,32,59,32,112,99,32,59,10,9,97,100,100,32,58,32,116,114,117,101,32,59,32,111,110,101,32,106,111,105,110,32,116,119,111,32,59,32,112,99,32,59,10,9,115,117,98,32,58,32,116] ++
 [114,117,101,32,59,32,111,110,101,32,106,111,105,110,32,116,119,111,32,59,32,112,99,32,59,10,9,108,111,97,100,32,58,32,116,114,117,101,32,59,32,111,110,101,32,106,111,105,110,32,116,119,111,32,59,32,112,99,32,59] ++
 [10,9,115,116,111,114,101,32,58,32,111,110,101,32,106,111,105,110,32,112,99,32,60,61,32,116,104,114,101,101,32,59,32,111,110,101,32,106,111,105,110,32,116,119,111,32,106,111,105,110,32,112,99,32,59,32,112,99,32,59] ++
 [10,9,106,117,109,112,32,58,32,116,114,117,101,32,59,32,98,111,116,32,59,32,111,110,101,32,106,111,105,110,32,112,99,32,59,10,9,98,110,122,32,58,32,116,114,117,101,32,59,32,98,111,116,32,59,32,111,110,101,32] ++
 [106,111,105,110,32,112,99,32,59,10,9,99,97,108,108,32,58,32,116,114,117,101,32,59,32,98,111,116,32,59,32,111,110,101,32,106,111,105,110,32,112,99,32,59,10,9,114,101,116,117,114,110,32,58,32,116,114,117,101,32] ++
 [59,32,111,110,101,32,106,111,105,110,32,112,99,32,59,32,116,119,111,32,59,10,9,111,117,116,112,117,116,32,58,32,116,114,117,101,32,59,32,111,110,101,32,106,111,105,110,32,112,99,32,59,32,112,99,32,59,10,9,104] ++
 [97,108,116,32,58,32,116,114,117,101,32,59,32,98,111,116,32,59,32,112,99,32,59,10]
def usualRows:List PR:=[⟨[1],[6],[8]⟩,⟨[1],[9],[8]⟩,⟨[1],[6],[8]⟩,⟨[1],[9,10,12],[8]⟩,⟨[1],[9,10,12],[8]⟩,⟨[1],[9,10,12],[8]⟩,⟨[9,8,12,11,5],[9,10,12,8,12],[8]⟩,⟨[1],[6],[9,8,12]⟩,⟨[1],[6],[9,8,12]⟩,⟨[1],[6],[9,8,12]⟩,⟨[1],[9,8,12],[10]⟩,⟨[1],[9,8,12],[8]⟩,⟨[1],[6],[8]⟩]
theorem parse_usual:parse usualL=(usualRows,0,0):=by decide +kernel
end Tb
theorem z3e:∀ x ∈ Tb.usualRows,Small x:=by
 have h:∀ x ∈ Tb.usualRows,x.m.length≤1000000∧x.r.length≤1000000∧x.p.length≤1000000:=by decide +kernel
 intro x hx k;obtain⟨h0,h1,h2⟩:=h x hx;unfold Tb.PR.nth;by_cases e0:k=0
 ·rw[if_pos e0];exact h0
 ·rw[if_neg e0];by_cases e1:k=1
  ·rw[if_pos e1];exact h1
  ·rw[if_neg e1];exact h2
theorem z9b{w:World}{g:Nat}{t:TypeId}{z u:Value}{p:Addr}(hk:Blk w g t #[z])(hp:p.block=g)(h:w.cell? p=some u):p.spot=none∧p.off=0:=by
 unfold Blk at hk;unfold World.cell? at h;rw[hp,hk] at h;have h2:p.spot=none∧[z][p.off]? = some u:=by simpa using h
 refine⟨h2.1,?_⟩;have:=(List.getElem?_eq_some_iff.1 h2.2).1
 simpa using this
theorem z98{w:World}{g B n c:Nat}{t:TypeId}{a:Option Addr}{v u:Value}{l:List Tb.PR}(hk:Blk w g t #[.slice a n c])(h:IsTab w B v l):IsTab (w.setCell ⟨g,0,none⟩ u) B v l:=by
 obtain⟨A,d,e,⟨vs,h1,h2,h3⟩,hd⟩:=h;refine⟨A,d,e,⟨vs,h1,fun hn=>?_,fun k x hx=>?_⟩,hd⟩
 ·obtain⟨ad,rfl,hb,hc⟩:=h2 hn;have hlen:2≤vs.length:=by
   have:vs.length≠0:=fun e=>hn (List.eq_nil_of_length_eq_zero e)
   omega
  have hne:ad.block≠g:=fun hg=>by
   obtain⟨-,o1⟩:=z9b hk (p:=ad.add 1) (by rw[q0a];exact hg) (hc 1 _ (List.getElem?_eq_getElem (by omega)));have e1:(ad.add 1).off=ad.off+1:=by unfold Addr.add;rw[if_neg (by decide)]
   omega
  refine⟨ad,rfl,hb,fun j y hy=>?_⟩;rw[World.cell?_setCell_other w ⟨g,0,none⟩ (ad.add j) u (fun e=>hne (by rw[←q0a ad j,←e]))];exact hc j y hy
 ·obtain⟨a0,a1,a2,e0,e1,e2,i0,i1,i2⟩:=h3 k x hx;exact⟨a0,a1,a2,e0,e1,e2,q2i hk i0,q2i hk i1,q2i hk i2⟩
def TellsT(w:World)(l:List Tb.PR)(e:Ending)(w':World):Prop:=∃ v,e=.returned (.agg #[v])∧IsTab w' w'.heap.size v l∧Below w.heap.size w w'
theorem z70(w:World)(hi:Ins w):Calls Tryz.prog 35 #[] w (TellsT w Tb.usualRows):=by
 have hpar:∀(s:ByteArray) W,s.data.toList=Tb.usualL→s.size≤maxLen→Ins W→Calls Tryz.prog 67 #[.string s] W (ParseRes W (Tb.usualRows,0,0)):=fun s W h1 h2 h3=>by
  have:=z61 s W h2 h3;rw[h1,Tb.parse_usual] at this;exact this
 have hal:Below w.heap.size w (w.alloc (.cells #[.slice none 0 0] 28)):=(Below.refl _ w).alloc (Nat.le_refl _) _;have HP:=η hpar;have HA:=η hal;have HI:=η (hi.below hal hi.lt);have hbk:=Blk.new w 28 #[.slice none 0 0];have HK:=η hbk;clear hpar hal hi hbk;go_enter Tryz.func35,Tryz.ntmps35;go_wp2_with (fail);refine(HP.out _ _ (by decide +kernel) (by decide +kernel) HI.out).mono ?_;rintro e w1 ⟨v,rfl,ht,hb1⟩;have hta:=ht;obtain⟨A,c,rfl,-,-⟩:=ht;have hk1:=HK.out.below hb1 HK.out.lt;have ht1:=z98 (u:=.slice A Tb.usualRows.length c) hk1 hta;have hsz:(w1.setCell ⟨w.heap.size,0,none⟩ (.slice A Tb.usualRows.length c)).heap.size=w1.heap.size:=by simp[World.setCell]
 rw[←hsz] at ht1;have hal2:Below (w1.setCell ⟨w.heap.size,0,none⟩ (.slice A Tb.usualRows.length c)).heap.size (w1.setCell ⟨w.heap.size,0,none⟩ (.slice A Tb.usualRows.length c)) ((w1.setCell ⟨w.heap.size,0,none⟩ (.slice A Tb.usualRows.length c)).alloc (.cells #[.slice A Tb.usualRows.length c] 28)):=(Below.refl _ _).alloc (Nat.le_refl _) _;have ht2:=(ht1.below hal2).more hal2.size;have hlt:=hk1.lt;have hb2:=((HA.out.trans (hb1.mono HA.out.size)).setCell (p:=⟨w.heap.size,0,none⟩) (Nat.le_refl _) (.slice A Tb.usualRows.length c)).alloc (by rw[hsz];omega) (.cells #[.slice A Tb.usualRows.length c] 28);have hc0:=hk1.cell 0;have hfz:=hk1.frozen 0;have hcell:((w1.setCell ⟨w.heap.size,0,none⟩ (.slice A Tb.usualRows.length c)).alloc (.cells #[.slice A Tb.usualRows.length c] 28)).cell? ⟨w.heap.size,0,none⟩=some (.slice A Tb.usualRows.length c):=((hk1.set_ 0 _).alloc _).cell 0;have HT:=η ht2;have HB:=η hb2;clear hta hk1 hal2 ht1 ht2 hsz hb2 hb1;dsimp only;have HT3:Hid (∀ e w',e=Ending.returned (.agg #[.slice A Tb.usualRows.length c])→w'=(w1.setCell ⟨w.heap.size,0,none⟩ (.slice A Tb.usualRows.length c)).alloc (.cells #[.slice A Tb.usualRows.length c] 28)→TellsT w Tb.usualRows e w'):=η fun e w' h1 h2=>by
  subst h1 h2;exact⟨_,rfl,HT.out,HB.out⟩
 clear HT HB;generalize Tb.usualRows.length=n at *;go_wp2;exact bodyPost_ret (v:=.agg #[.slice A n c]) (by simp[results,Tryz.results35,go_sem,hcell]) rfl (HT3.out _ _ rfl rfl)
end Go.Proofs.YtjobifclmcdjcaaGreatDoor
