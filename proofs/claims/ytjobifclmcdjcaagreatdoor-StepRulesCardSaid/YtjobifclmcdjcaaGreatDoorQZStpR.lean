import Derived.Deep.RegionLaw
import Derived.Maps.AppendAt
import Derived.Test.YtjobifclmcdjcaaGreatDoorQZShoA
import Derived.Test.YtjobifclmcdjcaaGreatDoorQZFree
import Derived.Test.YtjobifclmcdjcaaGreatDoorQZCodE
import Derived.Test.YtjobifclmcdjcaaGreatDoorQZFew
set_option maxHeartbeats 64000000
set_option maxRecDepth 100000
namespace Go.Proofs.YtjobifclmcdjcaaGreatDoor
open Go.RowKit Go.Shelf
attribute [local go_sem] Oper.semAt_some
theorem Tryz.infoRow:(Tryz.prog.info? 55).map (fun i=>(i.zero,i.size,i.bytes))=some (some (.agg #[.slice none 0 0,.slice none 0 0,.slice none 0 0]),3,72):=by kernel_rfl
def cutR6(x:Tb.PR):Tb.PR:=⟨x.m.take 45,x.r.take 45,x.p.take 45⟩
def fewT(l:List Tb.PR):List Tb.PR:=(l.take 15).map cutR6
theorem q40(l:List Tb.PR):∀ x ∈ fewT l,Small x:=fun x hx k=>by
 obtain⟨y,_,rfl⟩:=List.mem_map.1 hx
 unfold Tb.PR.nth cutR6
 by_cases e0:k=0
 ·rw[if_pos e0];simp;omega
 ·rw[if_neg e0]
  by_cases e1:k=1
  ·rw[if_pos e1];simp;omega
  ·rw[if_neg e1];simp;omega
theorem q7k{w:World}{B:Nat}{A:Option Addr}{l:List Int}{n d m:Nat}(h:Row w B A (ints l))(hn:n=l.length)(hm:m=(l.take 45).length)(hd:n≤d):IsInts w B (.slice A m d) (l.take 45):=by
 subst hm;refine⟨A,d,rfl,?_,by rw[List.length_take];omega⟩;have:=h.take 45
 rwa [show(ints l).take 45=ints (l.take 45) by simp[ints,List.map_take]] at this
theorem q5v{W W':World}{o:Obj}{g:Nat}{t:TypeId}{cs:Array Value}{row:Option Nat}(hb:Blk W g t cs)(hne:some g≠row)(hgr:((W.alloc o).drew).grownBy W' row):Blk W' g t cs :=
 (hgr.block g (hb.alloc o).lt hne).trans (hb.alloc o)
theorem z1i(pv pl:Int)(cA mA sA oA:Option Addr)(cn cc mn mc sn sc on oc cN mN sN oN:Nat)(hcN:cN=min 15 cn)(hmN:mN=min 15 mn)(hsN:sN=min 15 sn)(hoN:oN=min 15 on)(h1:cn≤cc∧cc≤maxLen)(h2:mn≤mc∧mc≤maxLen)(h3:sn≤sc∧sc≤maxLen)(h4:on≤oc∧oc≤maxLen)(w:World) :
  Calls Tryz.prog 10 #[.agg #[.int .i64 pv,.int .i64 pl,.slice cA cn cc,.slice mA mn mc,.slice sA sn sc,.slice oA on oc]] w fun e w'=>e=.returned (.agg #[.int .i64 pv,.int .i64 pl,.slice cA cN cc,.slice mA mN mc,.slice sA sN sc,.slice oA oN oc])∧Below w.heap.size w w':=by
 have i1:min (cn:Int) 15=(cN:Int):=by omega
 have i2:min (mn:Int) 15=(mN:Int):=by omega
 have i3:min (sn:Int) 15=(sN:Int):=by omega
 have i4:min (on:Int) 15=(oN:Int):=by omega
 have j1:(cN≤cc)=True:=eq_true (by omega);have j2:(mN≤mc)=True:=eq_true (by omega);have j3:(sN≤sc)=True:=eq_true (by omega);have j4:(oN≤oc)=True:=eq_true (by omega);have k1:(cn:Int)≤9223372036854775807:=by have:=h1.2;unfold maxLen at this;omega
 have k2:(mn:Int)≤9223372036854775807:=by have:=h2.2;unfold maxLen at this;omega
 have k3:(sn:Int)≤9223372036854775807:=by have:=h3.2;unfold maxLen at this;omega
 have k4:(on:Int)≤9223372036854775807:=by have:=h4.2;unfold maxLen at this;omega
 have hb0:=(((Below.refl _ w).alloc (Nat.le_refl _) (.cells #[.int .i64 pv,.int .i64 pl,.slice cA cn cc,.slice mA mn mc,.slice sA sn sc,.slice oA on oc] 35)).alloc (by simp) (.cells #[.int .i64 0,.int .i64 0,.slice none 0 0,.slice none 0 0,.slice none 0 0,.slice none 0 0] 35));obtain⟨W0,hW0⟩:∃ W0,(w.alloc (.cells #[.int .i64 pv,.int .i64 pl,.slice cA cn cc,.slice mA mn mc,.slice sA sn sc,.slice oA on oc] 35)).alloc (.cells #[.int .i64 0,.int .i64 0,.slice none 0 0,.slice none 0 0,.slice none 0 0,.slice none 0 0] 35)=W0:=⟨_,rfl⟩;have hp0:Blk W0 w.heap.size 35 #[.int .i64 pv,.int .i64 pl,.slice cA cn cc,.slice mA mn mc,.slice sA sn sc,.slice oA on oc]:=hW0▸(Blk.new _ _ _).alloc _;have hq0:Blk W0 (w.heap.size+1) 35 #[.int .i64 0,.int .i64 0,.slice none 0 0,.slice none 0 0,.slice none 0 0,.slice none 0 0]:=by
  have h1:=Blk.new (w.alloc (.cells #[.int .i64 pv,.int .i64 pl,.slice cA cn cc,.slice mA mn mc,.slice sA sn sc,.slice oA on oc] 35)) 35 #[.int .i64 0,.int .i64 0,.slice none 0 0,.slice none 0 0,.slice none 0 0,.slice none 0 0];rw[show(w.alloc (.cells #[.int .i64 pv,.int .i64 pl,.slice cA cn cc,.slice mA mn mc,.slice sA sn sc,.slice oA on oc] 35)).heap.size=w.heap.size+1 by simp] at h1;rw[←hW0];exact h1
 rw[hW0] at hb0;obtain⟨a0,a1,a2,a3,a4,a5⟩:=ζ6 hp0;have f2:W0.frozen? ⟨w.heap.size,2,none⟩=false:=hp0.frozen 2;have f3:W0.frozen? ⟨w.heap.size,3,none⟩=false:=hp0.frozen 3;have f4:W0.frozen? ⟨w.heap.size,4,none⟩=false:=hp0.frozen 4;have f5:W0.frozen? ⟨w.heap.size,5,none⟩=false:=hp0.frozen 5;have HP:=η hp0;have HQ:=η hq0;have HB:=η hb0;clear hb0 hp0 hq0 hcN hmN hsN hoN h1 h2 h3 h4;go_enter Tryz.func10,Tryz.ntmps10;go_wp2_with (fail);refine Free.region_seq [29,31,33,35] [1,3,8,10,15,17,22,24] 29 (fun W'=>W'.cell? ⟨w.heap.size,2,none⟩=some (.slice cA cn cc)∧W'.cell? ⟨w.heap.size,3,none⟩=some (.slice mA mn mc)∧W'.cell? ⟨w.heap.size,4,none⟩=some (.slice sA sn sc)∧W'.cell? ⟨w.heap.size,5,none⟩=some (.slice oA on oc)) (by kernel_rfl) (by kernel_rfl) (by kernel_rfl) (by kernel_rfl) (⟨a2,a3,a4,a5⟩) (fun ops hops=>?_);clear hops;iterate 29
  refine Free.Seq.quiet (v:=?_) (a':=?_) rfl rfl (fun W' hW'=>?_) ?_ ?_
  rotate_left 2
  ·first|obtain⟨s0,s1,s2,s3⟩:=hW' rfl|skip
   go_simp;try with_reducible rfl
  ·simp only[Act.put,List.setIfInBounds_toArray,List.set_cons_zero,List.set_cons_succ];try with_reducible rfl
 refine Free.Seq.loud_ rfl (.inl rfl) (fun K hK=>?_);go_simp;refine hK.out _ _ rfl (fun h=>absurd h (by decide)) ?_;clear hK K;iterate 1
  refine Free.Seq.quiet (v:=?_) (a':=?_) rfl rfl (fun W' hW'=>?_) ?_ ?_
  rotate_left 2
  ·skip
   go_simp;try with_reducible rfl
  ·simp only[Act.put,List.setIfInBounds_toArray,List.set_cons_zero,List.set_cons_succ];try with_reducible rfl
 refine Free.Seq.loud_ rfl (.inl rfl) (fun K hK=>?_);go_simp;refine hK.out _ _ rfl (fun h=>absurd h (by decide)) ?_;clear hK K;iterate 1
  refine Free.Seq.quiet (v:=?_) (a':=?_) rfl rfl (fun W' hW'=>?_) ?_ ?_
  rotate_left 2
  ·skip
   go_simp;try with_reducible rfl
  ·simp only[Act.put,List.setIfInBounds_toArray,List.set_cons_zero,List.set_cons_succ];try with_reducible rfl
 refine Free.Seq.loud_ rfl (.inl rfl) (fun K hK=>?_);go_simp;refine hK.out _ _ rfl (fun h=>absurd h (by decide)) ?_;clear hK K;iterate 1
  refine Free.Seq.quiet (v:=?_) (a':=?_) rfl rfl (fun W' hW'=>?_) ?_ ?_
  rotate_left 2
  ·skip
   go_simp;try with_reducible rfl
  ·simp only[Act.put,List.setIfInBounds_toArray,List.set_cons_zero,List.set_cons_succ];try with_reducible rfl
 refine Free.Seq.loud_ rfl (.inl rfl) (fun K hK=>?_);go_simp;refine hK.out _ _ rfl (fun h=>absurd h (by decide)) ?_;clear hK K;refine Free.Seq.nil_ ?_;obtain⟨W5,hW5⟩:∃ W5,((((W0.setCell ⟨w.heap.size,2,none⟩ (.slice cA cN cc)).setCell ⟨w.heap.size,3,none⟩ (.slice mA mN mc)).setCell ⟨w.heap.size,4,none⟩ (.slice sA sN sc)).setCell ⟨w.heap.size,5,none⟩ (.slice oA oN oc)).drew=W5:=⟨_,rfl⟩;have hp5:Blk W5 w.heap.size 35 #[.int .i64 pv,.int .i64 pl,.slice cA cN cc,.slice mA mN mc,.slice sA sN sc,.slice oA oN oc]:=by
  rw[←hW5];exact Blk.drew9 ((((HP.out.set_ 2 _).set_ 3 _).set_ 4 _).set_ 5 _)
 have hq5:Blk W5 (w.heap.size+1) 35 #[.int .i64 0,.int .i64 0,.slice none 0 0,.slice none 0 0,.slice none 0 0,.slice none 0 0]:=by
  rw[←hW5];exact Blk.drew9 ((((HQ.out.other (by show w.heap.size≠_;omega) _).other (by show w.heap.size≠_;omega) _).other (by show w.heap.size≠_;omega) _).other (by show w.heap.size≠_;omega) _)
 have hb5:Below w.heap.size w W5:=by
  rw[←hW5];exact((((HB.out.setCell (p:=⟨w.heap.size,2,none⟩) (Nat.le_refl _) _).setCell (p:=⟨w.heap.size,3,none⟩) (Nat.le_refl _) _).setCell (p:=⟨w.heap.size,4,none⟩) (Nat.le_refl _) _).setCell (p:=⟨w.heap.size,5,none⟩) (Nat.le_refl _) _).drew
 rw[hW5];have HY:=η hq5;have HB5:=η hb5;clear hW5 a0 a1 a2 a3 a4 a5 f2 f3 f4 f5 HP HQ HB hb5 hq5 hW0;obtain⟨x0,x1,x2,x3,x4,x5⟩:=ζ6 hp5;have hyv:Blk (ansF w W5 (.int .i64 pv) (.int .i64 pl) (.slice cA cN cc) (.slice mA mN mc) (.slice sA sN sc) (.slice oA oN oc)) (w.heap.size+1) 35 #[.int .i64 pv,.int .i64 pl,.slice cA cN cc,.slice mA mN mc,.slice sA sN sc,.slice oA oN oc]:=z77 HY.out;have hbv:Below w.heap.size w (ansF w W5 (.int .i64 pv) (.int .i64 pl) (.slice cA cN cc) (.slice mA mN mc) (.slice sA sN sc) (.slice oA oN oc)):=z4c HB5.out;have y0:W5.cell? ⟨w.heap.size+1,0,none⟩=some (.int .i64 0):=HY.out.cell 0;have g0:W5.frozen? ⟨w.heap.size+1,0,none⟩=false:=HY.out.frozen 0;have v0:=hyv.cell 0;have y1:W5.cell? ⟨w.heap.size+1,1,none⟩=some (.int .i64 0):=HY.out.cell 1;have g1:W5.frozen? ⟨w.heap.size+1,1,none⟩=false:=HY.out.frozen 1;have v1:=hyv.cell 1;have y2:W5.cell? ⟨w.heap.size+1,2,none⟩=some (.slice none 0 0):=HY.out.cell 2;have g2:W5.frozen? ⟨w.heap.size+1,2,none⟩=false:=HY.out.frozen 2;have v2:=hyv.cell 2;have y3:W5.cell? ⟨w.heap.size+1,3,none⟩=some (.slice none 0 0):=HY.out.cell 3;have g3:W5.frozen? ⟨w.heap.size+1,3,none⟩=false:=HY.out.frozen 3;have v3:=hyv.cell 3;have y4:W5.cell? ⟨w.heap.size+1,4,none⟩=some (.slice none 0 0):=HY.out.cell 4;have g4:W5.frozen? ⟨w.heap.size+1,4,none⟩=false:=HY.out.frozen 4;have v4:=hyv.cell 4;have y5:W5.cell? ⟨w.heap.size+1,5,none⟩=some (.slice none 0 0):=HY.out.cell 5;have g5:W5.frozen? ⟨w.heap.size+1,5,none⟩=false:=HY.out.frozen 5;have v5:=hyv.cell 5;have HBV:=η hbv;have hylt:=HY.out.lt;unfold ansF at v0 v1 v2 v3 v4 v5 HBV;clear hyv hbv hp5;go_wp2;exact bodyPost_ret (v:=.agg #[.int .i64 pv,.int .i64 pl,.slice cA cN cc,.slice mA mN mc,.slice sA sN sc,.slice oA oN oc]) (by simp[results,Tryz.results10,go_sem,v0,v1,v2,v3,v4,v5]) rfl ⟨rfl,HBV.out⟩
theorem q5i{s:St.State}{cA mA sA oA:Option Addr}{cc mc sc oc:Nat}(w:World){w0:World}{B:Nat}(h:StIn w0 B s cA cc mA mc sA sc oA oc) :
  Calls Tryz.prog 10 #[incv s cA cc mA mc sA sc oA oc] w fun e w'=>e=.returned (incv (cutS s) cA cc mA mc sA sc oA oc)∧Below w.heap.size w w':=by
 rw[q42];exact z1i s.pc.v s.pc.l cA mA sA oA _ cc _ mc _ sc _ oc _ _ _ _ rfl rfl rfl rfl h.rc.2 h.rm.2 h.rs.2 h.ro.2 w
deriving instance DecidableEq for St.State
def FewIn10(B0:Nat)(w:World)(l:List Tb.PR)(k:Nat)(vs:List Value):Prop :=
 vs.length=k*3∧∀ j x,j<k→l[j]? = some x→∃ a0 a1 a2,vs[j*3]? = some a0∧vs[j*3+1]? = some a1∧vs[j*3+2]? = some a2∧IsInts w B0 a0 (x.m.take 45)∧IsInts w B0 a1 (x.r.take 45)∧IsInts w B0 a2 (x.p.take 45)
theorem FewIn10.next{B0:Nat}{w:World}{l:List Tb.PR}{k:Nat}{vs:List Value}(h:FewIn10 B0 w l k vs){x:Tb.PR}(hx:l[k]? = some x){a0 a1 a2:Value}(i0:IsInts w B0 a0 (x.m.take 45))(i1:IsInts w B0 a1 (x.r.take 45))(i2:IsInts w B0 a2 (x.p.take 45)):FewIn10 B0 w l (k+1) (vs++[a0,a1,a2]):=by
 obtain⟨h1,h2⟩:=h;refine⟨by simp;omega,fun j y hj hy=>?_⟩;by_cases e:j=k
 ·subst e;rw[hx] at hy;injection hy with hy;subst hy;refine⟨a0,a1,a2,?_,?_,?_,i0,i1,i2⟩
  ·rw[List.getElem?_append_right (by omega),show j*3-vs.length=0 by omega];rfl
  ·rw[List.getElem?_append_right (by omega),show j*3+1-vs.length=1 by omega];rfl
  ·rw[List.getElem?_append_right (by omega),show j*3+2-vs.length=2 by omega];rfl
 ·obtain⟨b0,b1,b2,e0,e1,e2,r⟩:=h2 j y (by omega) hy;exact⟨b0,b1,b2,by rw[List.getElem?_append_left (by omega)];exact e0,by rw[List.getElem?_append_left (by omega)];exact e1,by rw[List.getElem?_append_left (by omega)];exact e2,r⟩
theorem own_row3{W W2:World}{B0 b0 base k cn:Nat}{e:TypeId}{An:Option Addr}{xs:List Value}(h:W.ownsRow base e 3 (.slice An k cn) k xs)(hb0:b0≤base)(hk:Keeps B0 b0 W W2):Row W2 W2.heap.size An xs∧k≤cn:=by
 have hown:=h;obtain⟨h1,h2⟩:=h;rcases h2 with⟨he,hk0⟩|⟨g,cap,cur,he,hb,hh,hkc,hcm,hcs,ht⟩
 ·injection he with e1 e2 e3;subst hk0;have:xs=[]:=List.eq_nil_of_length_eq_zero (by simpa using h1);subst this;exact⟨Row.nil,by omega⟩
 ·injection he with e1 e2 e3;subst e1 e3;have hg:=(Array.getElem?_eq_some_iff.1 hh).1;refine⟨fun _=>⟨_,rfl,by have:=hk.1;show g<_;omega,fun j u hu=>?_⟩,hkc⟩;exact(hk.2 _ (by rw[q0a];exact hg) (.inr (by rw[q0a];show b0≤g;omega))).trans (hown.cells rfl j u hu)
theorem q5y{w W W2:World}{B0:Nat}{v:Value}{l:List Int}(h:IsInts w B0 v l)(hB:B0≤w.heap.size)(hb:Below w.heap.size w W)(hk:Keeps B0 w.heap.size W W2):IsInts W2 W2.heap.size v l:=by
 obtain⟨A,c,e,hr,hc⟩:=h;refine⟨A,c,e,fun hn=>?_,hc⟩;obtain⟨ad,e2,hb2,hcells⟩:=hr hn;have hz:=hb.size;have hz2:=hk.1;refine⟨ad,e2,by omega,fun j u hu=>?_⟩;rw[hk.2 (ad.add j) (by rw[q0a];omega) (.inl (by rw[q0a];exact hb2)),hb.cell (by rw[q0a];omega)];exact hcells j u hu
theorem FewIn10.rows{B0:Nat}{w W:World}{l:List Tb.PR}{N:Nat}{vs:List Value}{A:Option Addr}{c:Nat}(h:FewIn10 B0 w l N vs)(hN:N=min l.length 15)(hB:B0≤w.heap.size)(hb:Below w.heap.size w W)(hr:W.ownsRow (w.heap.size+3) 55 3 (.slice A N c) N vs)(W2:World)(hk:Keeps B0 w.heap.size W W2):IsTab W2 W2.heap.size (.slice A N c) (fewT l):=by
 obtain⟨h1,h2⟩:=h;obtain⟨hrow,hc⟩:=own_row3 hr (by omega) hk;have hlen:(fewT l).length=N:=by simp[fewT];omega
 refine⟨A,c,by rw[hlen],⟨vs,by rw[hlen];exact h1,hrow,fun k x hx=>?_⟩,by rw[hlen];exact hc⟩;have hk2:k<N:=by rw[←hlen];exact(List.getElem?_eq_some_iff.1 hx).1
 have hkl:k<l.length:=by omega
 unfold fewT at hx;rw[List.getElem?_map,List.getElem?_take,if_pos (by omega),List.getElem?_eq_getElem hkl] at hx;injection hx with hx;obtain⟨a0,a1,a2,e0,e1,e2,i0,i1,i2⟩:=h2 k _ hk2 (List.getElem?_eq_getElem hkl);refine⟨a0,a1,a2,e0,e1,e2,?_,?_,?_⟩
 ·rw[←hx];exact q5y i0 hB hb hk
 ·rw[←hx];exact q5y i1 hB hb hk
 ·rw[←hx];exact q5y i2 hB hb hk
def Cut10(B0:Nat)(w:World)(l:List Tb.PR)(e:Ending)(w':World):Prop:=∃ v,e=.returned (.agg #[v])∧(∀ W2,Keeps B0 w.heap.size w' W2→IsTab W2 W2.heap.size v (fewT l))∧Below w.heap.size w w'
theorem q4p{A:Option Addr}{l:List Tb.PR}(B0 c:Nat)(w:World)(hB00:B0≤w.heap.size)(h:RowsIn w B0 A l)(hc:l.length≤c)(hm:c≤maxLen) :
  Calls Tryz.prog 9 #[.agg #[.slice A l.length c]] w (Cut10 B0 w l):=by
 unfold maxLen at hm;obtain⟨N,hN⟩:∃ N,min l.length 15=N:=⟨_,rfl⟩;have hmin:min (l.length:Int) 15=(N:Int):=by omega
 have hmax:max (N:Int) 0=(N:Int):=by omega
 have hNc:N≤c:=by omega
 have hN15:N≤15:=by omega
 have hNl:N≤l.length:=by omega
 have hst1:=(Blk.new (w.alloc (.cells #[.slice A l.length c] 28)) 28 #[.slice none 0 0]).alloc (.cells #[.slice none 0 0] 28);have hst2:=Blk.new ((w.alloc (.cells #[.slice A l.length c] 28)).alloc (.cells #[.slice none 0 0] 28)) 28 #[.slice none 0 0];have hB0:Below w.heap.size w (((w.alloc (.cells #[.slice A l.length c] 28)).alloc (.cells #[.slice none 0 0] 28)).alloc (.cells #[.slice none 0 0] 28)):=(((Below.refl _ w).alloc (Nat.le_refl _) _).alloc (by simp) _).alloc (by simp;omega) _;have hz3:(((w.alloc (.cells #[.slice A l.length c] 28)).alloc (.cells #[.slice none 0 0] 28)).alloc (.cells #[.slice none 0 0] 28)).heap.size=w.heap.size+3:=by simp
 rw[World.size_alloc] at hst1;rw[World.size_alloc,World.size_alloc] at hst2;obtain⟨i0,hi,hz0,hz1,hz2⟩:=info_parts Tryz.infoRow;have H:=η h;have H1:=η hst1;have H2:=η hst2;have HB0:=η hB0;have HZ3:=η hz3;have HN:=η hN.symm;clear h hst1 hst2 hB0 hz3 hN;go_enter Tryz.func9,Tryz.ntmps9;go_wp2;go_loopw [14] (fun i wr=>∃(k:Nat) (An:Option Addr) (cn:Nat) (vs:List Value),k≤N∧i=.int .i64 k∧Blk wr (w.heap.size+1) 28 #[.slice none 0 0]∧Blk wr (w.heap.size+1+1) 28 #[.slice An k cn]∧wr.ownsRow (w.heap.size+3) 55 3 (.slice An k cn) k vs∧w.heap.size+3≤wr.heap.size∧Hid (Below w.heap.size w wr)∧Hid (FewIn10 B0 w l k vs)) (fun i _=>N-(intOf i).toNat);case atStart=>exact⟨0,none,0,[],Nat.zero_le _,rfl,H1.out,H2.out,World.ownsRow_nil _ _ _ _,by rw[HZ3.out];exact Nat.le_refl _,HB0,η ⟨rfl,fun j x hj=>absurd hj (by omega)⟩⟩
 case round =>
  obtain⟨k,An,cn,vs,hk,rfl,hb1,hb2,hown,hsz,HB,HF⟩:=hrel;clear H1 H2 HB0 HZ3;have hl2:=hb2.lt;have hf1:=hb1.frozen 0;have hc1:wr.cell? ⟨w.heap.size+1,0,none⟩=some (.slice none 0 0):=by rw[hb1.cell];rfl
  have hc2:wr.cell? ⟨w.heap.size+1+1,0,none⟩=some (.slice An k cn):=by rw[hb2.cell];rfl
  by_cases hlt:k<N
  ·have hkl:k<l.length:=by omega
   have hlk:l[k]? = some l[k]:=List.getElem?_eq_getElem hkl;obtain⟨ad,a0,a1,a2,rfl,hb,c0,c1,c2,i0',i1',i2'⟩:=H.out.at_ hkl;have hadb:(ad.add (k*3)).block<w.heap.size:=by rw[q0a];omega
   have d0:=(HB.out.cell hadb).trans c0;have d1:=(HB.out.cell (p:=⟨(ad.add (k*3)).block,(ad.add (k*3)).off+1,none⟩) hadb).trans c1;have d2:=(HB.out.cell (p:=⟨(ad.add (k*3)).block,(ad.add (k*3)).off+2,none⟩) hadb).trans c2;obtain⟨A0,e0,rfl,r0,k0⟩:=i0';obtain⟨A1,e1,rfl,r1,k1⟩:=i1';obtain⟨A2,e2,rfl,r2,k2⟩:=i2';clear c0 c1 c2;have hnx:=HF.out.next hlk (q7k (d:=e0) r0 rfl rfl k0) (q7k (d:=e1) r1 rfl rfl k1) (q7k (d:=e2) r2 rfl rfl k2);obtain⟨m0,hm0⟩:∃ m,(l[k].m.take 45).length=m:=⟨_,rfl⟩;obtain⟨m1,hm1⟩:∃ m,(l[k].r.take 45).length=m:=⟨_,rfl⟩;obtain⟨m2,hm2⟩:∃ m,(l[k].p.take 45).length=m:=⟨_,rfl⟩;rw[hm0,hm1,hm2] at hnx;rw[List.length_take] at hm0 hm1 hm2;have HNX:=η hnx;clear hnx hlk r0 r1 r2;generalize l[k].m.length=n0 at *;generalize l[k].r.length=n1 at *;generalize l[k].p.length=n2 at *;have q0:min (n0:Int) 45=(m0:Int):=by omega
   have q1:min (n1:Int) 45=(m1:Int):=by omega
   have q2:min (n2:Int) 45=(m2:Int):=by omega
   have p0:m0≤e0:=by omega
   have p1:m1≤e1:=by omega
   have p2:m2≤e2:=by omega
   clear hm0 hm1 hm2;have hno:some (w.heap.size+1+1)≠(Value.slice An k cn).ownBlock:=fun he=>by have:=(hown.lt _ he.symm).1;omega
   have hno1:some (w.heap.size+1)≠(Value.slice An k cn).ownBlock:=fun he=>by have:=(hown.lt _ he.symm).1;omega
   go_wp2;obtain⟨W,hW⟩:∃ W,wr.alloc (.cells #[.slice A0 n0 e0,.slice A1 n1 e1,.slice A2 n2 e2] 55)=W:=⟨_,rfl⟩;have hbr:Blk W wr.heap.size 55 #[.slice A0 n0 e0,.slice A1 n1 e1,.slice A2 n2 e2]:=hW▸Blk.new wr _ _;have hb2W:Blk W (w.heap.size+1+1) 28 #[.slice An k cn]:=hW▸hb2.alloc _;have hownW:W.ownsRow (w.heap.size+3) 55 3 (.slice An k cn) k vs:=hW▸hown.alloc _;have hBW:Hid (Below w.heap.size w W):=hW▸η (HB.out.alloc HB.out.size _);have hszW:W.heap.size=wr.heap.size+1:=by rw[←hW];simp
   have hnor:some wr.heap.size≠(Value.slice An k cn).ownBlock:=fun he=>by have:=(hown.lt _ he.symm).2;omega
   have HSZ:=η hszW;have HBR:=η hbr;have HB2:=η hb2W;have HB1:Hid (Blk W (w.heap.size+1) 28 #[.slice none 0 0]):=hW▸η (hb1.alloc _);have HOW:=η hownW;have hlt2:w.heap.size+1+1<W.heap.size:=by omega
   have hcw:W.cell? ⟨w.heap.size+1+1,0,none⟩=some (.slice An k cn):=hb2W.cell 0;have hbase:w.heap.size+3≤W.heap.size:=by omega
   rw[hW];clear hW hszW hbr hb2W hownW d0 d1 d2 hc1 hc2 hf1 hb1 hb2 hown hl2 hno hno1;refine Free.region_seq [24,25,27] [1,3,5,10,12,17,19] 27 (fun W'=>W'.cell? ⟨wr.heap.size,0,none⟩=some (.slice A0 n0 e0)∧W'.cell? ⟨wr.heap.size,1,none⟩=some (.slice A1 n1 e1)∧W'.cell? ⟨wr.heap.size,2,none⟩=some (.slice A2 n2 e2)∧W'.cell? ⟨w.heap.size+1+1,0,none⟩=some (.slice An k cn)) (by kernel_rfl) (by kernel_rfl) (by kernel_rfl) (by kernel_rfl) ⟨HBR.out.cell 0,HBR.out.cell 1,HBR.out.cell 2,HB2.out.cell 0⟩ (fun ops hops=>?_);clear hops;iterate 24
    refine Free.Seq.quiet (v:=?_) (a':=?_) rfl rfl (fun W' hW'=>?_) ?_ ?_
    rotate_left 2
    ·first|obtain⟨s0,s1,s2,s3⟩:=hW' rfl|skip
     go_simp;try with_reducible rfl
    ·simp only[Act.put,List.setIfInBounds_toArray,List.set_cons_zero,List.set_cons_succ];try with_reducible rfl
   refine Free.Seq.loud_ rfl (.inl rfl) (fun K hK=>?_);go_simp;refine hK.out _ _ rfl (fun _=>⟨(HBR.out.alloc _).cell 0,(HBR.out.alloc _).cell 1,(HBR.out.alloc _).cell 2,(HB2.out.alloc _).cell 0⟩) ?_;clear hK K;refine Free.Seq.loud_ rfl (.inl rfl) (fun K hK=>?_);refine q13 rfl (.tmp 19) (.tmp 42) 26 rfl (w.heap.size+3) 55 i0 (.agg #[.slice none 0 0,.slice none 0 0,.slice none 0 0]) 3 72 Tryz.underlying26 hi hz0 hz1 hz2 rfl (by decide) (.slice An k cn) k vs rfl (HOW.out.alloc _) ⟨W.heap.size,0,none⟩ 1 1 [.slice A0 m0 e0,.slice A1 m1 e1,.slice A2 m2 e2] rfl rfl (q04 W [.slice A0 m0 e0,.slice A1 m1 e1,.slice A2 m2 e2] 55) (by simp[Value.oneCell']) (by unfold maxLen;omega) (by omega) (by simp;omega) ?_;intro v' w' hown' hgrow hob';obtain⟨g',cap',rfl⟩:=ownsRow_succ hown';have hbr':=q5v HBR.out hnor hgrow;have hb2':=q5v HB2.out (by intro he;have:=(HOW.out.lt _ he.symm).1;omega) hgrow;have hcz:w'.cell? ⟨w.heap.size+1+1,0,none⟩=some (.slice An k cn):=hb2'.cell 0;have hfz:=hb2'.frozen 0;refine hK.out _ _ rfl (fun _=>⟨hbr'.cell 0,hbr'.cell 1,hbr'.cell 2,hcz⟩) ?_;clear hK K;iterate 1
    refine Free.Seq.quiet (v:=?_) (a':=?_) rfl rfl (fun W' hW'=>?_) ?_ ?_
    rotate_left 2
    ·first|obtain⟨s0,s1,s2,s3⟩:=hW' rfl|skip
     go_simp;try with_reducible rfl
    ·simp only[Act.put,List.setIfInBounds_toArray,List.set_cons_zero,List.set_cons_succ];try with_reducible rfl
   refine Free.Seq.loud_ rfl (.inl rfl) (fun K hK=>?_);go_simp;refine hK.out _ _ rfl (fun h=>absurd h (by decide)) ?_;clear hK K;refine Free.Seq.nil_ ?_;have hgs:w.heap.size+3≤w'.heap.size:=by have:=hgrow.size;simp[World.drew] at this;omega
   have hBg:Below w.heap.size w w':=((hBW.out.alloc hBW.out.size _).drew).grown hgrow (by have:=hBW.out.size;simp[World.drew];omega) (fun k he=>by have:=(HOW.out.lt k he).1;omega);have HREL:Hid (∃(k':Nat) (An':Option Addr) (cn':Nat) (vs':List Value),k'≤N∧Value.int .i64 ((k:Int)+1)=.int .i64 k'∧k'=k+1∧Blk (w'.setCell ⟨w.heap.size+1+1,0,none⟩ (.slice (some ⟨g',0,none⟩) (k+1) cap')) (w.heap.size+1) 28 #[.slice none 0 0]∧Blk (w'.setCell ⟨w.heap.size+1+1,0,none⟩ (.slice (some ⟨g',0,none⟩) (k+1) cap')) (w.heap.size+1+1) 28 #[.slice An' k' cn']∧(w'.setCell ⟨w.heap.size+1+1,0,none⟩ (.slice (some ⟨g',0,none⟩) (k+1) cap')).ownsRow (w.heap.size+3) 55 3 (.slice An' k' cn') k' vs'∧w.heap.size+3≤(w'.setCell ⟨w.heap.size+1+1,0,none⟩ (.slice (some ⟨g',0,none⟩) (k+1) cap')).heap.size∧Hid (Below w.heap.size w (w'.setCell ⟨w.heap.size+1+1,0,none⟩ (.slice (some ⟨g',0,none⟩) (k+1) cap')))∧Hid (FewIn10 B0 w l k' vs')):=η
    ⟨k+1,some ⟨g',0,none⟩,cap',_,by omega,by simp,rfl,(q5v HB1.out (by intro he;have:=(HOW.out.lt _ he.symm).1;omega) hgrow).other (p:=⟨w.heap.size+1+1,0,none⟩) (by simp) _,hb2'.set_ 0 _,ownsRow_setCell_below hown' (by simp) _,by simpa [World.setCell] using hgs,η (hBg.setCell (p:=⟨w.heap.size+1+1,0,none⟩) (by simp;omega) _),HNX⟩
   clear hgs hBg hcz hfz hb2' hown' hgrow hob' hlt2 hcw;go_wp2;go_roundw;case rel =>
    obtain⟨k',An',cn',vs',h1,h2,rfl,h4,h5,h6,h7,h8,h9⟩:=HREL.out;exact⟨k+1,An',cn',vs',h1,by go_num,h4,h5,h6,h7,h8,h9⟩
   case measure=>simp[intOf];omega
  ·obtain rfl:k=N:=by omega
   have hB2:=HB.out.setCell (p:=⟨w.heap.size+1,0,none⟩) (by simp) (.slice An k cn);have hown2:=ownsRow_setCell_below hown (a:=⟨w.heap.size+1,0,none⟩) (by simp) (.slice An k cn);have htab:=fun W2 hk=>HF.out.rows HN.out hB00 hB2 hown2 W2 hk
   have HT:=η htab;have HB2:=η hB2;have hcell:(wr.setCell ⟨w.heap.size+1,0,none⟩ (.slice An k cn)).cell? ⟨w.heap.size+1,0,none⟩=some (.slice An k cn):=(hb1.set_ 0 _).cell 0;clear htab hB2 hown2;go_wp2;exact bodyPost_ret (v:=.agg #[.slice An k cn]) (by simp[results,Tryz.results9,go_sem,hcell]) rfl ⟨_,rfl,HT.out,HB2.out⟩
end Go.Proofs.YtjobifclmcdjcaaGreatDoor
