import Derived.BigRegion
import Derived.Test.YtjobifclmcdjcaaGreatDoorQZJudA
import Derived.Test.YtjobifclmcdjcaaGreatDoorQZShoA
import Derived.Test.YtjobifclmcdjcaaGreatDoorQZFree
import Derived.Test.YtjobifclmcdjcaaGreatDoorQZRulA
set_option maxHeartbeats 64000000
set_option maxRecDepth 100000
namespace Go.Proofs.YtjobifclmcdjcaaGreatDoor
open Go.RowKit Go.Shelf
theorem Tryz.infoJTh:(Tryz.prog.info? 173).map (fun i=>(i.zero,i.size,i.bytes))=some (some .nilIface,1,16):=by kernel_rfl
def jvs(q:List Jg.Th):List Value:=q.map jv
theorem q7l(q:List Jg.Th)(x:Jg.Th):jvs (q++[x])=jvs q++[jv x]:=by simp[jvs]
theorem q45(x:Jg.Th):∃ t y,jv x=.iface t y:=by cases x<;>exact⟨_,_,rfl⟩
theorem j10(x:Jg.Th):(jv x).oneCell'=true:=by cases x<;>rfl
structure PJ (g:Nat) (x0 x1 x2 rv:Value) (q:List Jg.Th) (W:World):Prop where
 blk:Blk W g 203 #[x0,x1,x2,rv]
 own:W.ownsRow (g+1) 173 1 rv q.length (jvs q)
section
variable {g:Nat} {x0 x1 x2 rv:Value} {q:List Jg.Th} {W W':World}
theorem PJ.lt(h:PJ g x0 x1 x2 rv q W):g<W.heap.size:=h.blk.lt
theorem PJ.kept(h:PJ g x0 x1 x2 rv q W)(hb:Below W.heap.size W W'):PJ g x0 x1 x2 rv q W':=⟨h.blk.below hb h.blk.lt,q1l h.own hb⟩
end
theorem q88{W W':World}{o:Obj}{g:Nat}{t:TypeId}{cs:Array Value}{row:Option Nat}(hb:Blk W g t cs)(hne:some g≠row)(hgr:(W.alloc o).grownBy W' row):Blk W' g t cs :=
 (hgr.block g (hb.alloc o).lt hne).trans (hb.alloc o)
def PutJ(g:Nat)(x0 x1 x2:Value)(q:List Jg.Th)(w:World)(e:Ending)(w':World):Prop:=(∃ u,e=.returned u)∧(∃ rv,PJ g x0 x1 x2 rv q w')∧Below g w w'
theorem z9h{g:Nat}{x0 x1 x2 rv:Value}{q:List Jg.Th}(x:Jg.Th)(w:World)(h:PJ g x0 x1 x2 rv q w)(hl:q.length≤1000000) :
  Calls Tryz.prog 165 #[.pointer (some ⟨g,0,none⟩),jv x] w (PutJ g x0 x1 x2 (q++[x]) w):=by
 have hown:=h.own;have hblk:=h.blk;have hR:=h.lt;have c0:w.cell? ⟨g,3,none⟩=some rv:=by rw[h.blk.cell];rfl
 have f0:w.frozen? ⟨g,3,none⟩=false:=h.blk.frozen _;obtain⟨i0,hi,hz0,hz1,hz2⟩:=info_parts Tryz.infoJTh;have hno:some g≠rv.ownBlock:=fun he=>by have:=(hown.lt g he.symm).1;omega
 obtain⟨A1,cap,rfl⟩:=q0b h.own;have hone:=j10 x;have hsn:=q7l q x;obtain⟨ty,y,hu⟩:=q45 x;rw[hu] at hone hsn;rw[hu];clear h hu;go_enter Tryz.func165,Tryz.ntmps165;go_wp2_with (at_builtin;refine wpList_append_own _ rfl _ _ 201 rfl (g+1) 173 i0 .nilIface 1 16 Tryz.underlying201 hi hz0 hz1 hz2 rfl (by decide) _ _ _ rfl (hown.alloc _) ⟨w.heap.size,0,none⟩ 1 1 [.iface ty y] rfl rfl (q04 _ _ _) (by simp[hone]) (by unfold maxLen;omega) (by omega) (by simp;omega) ?_);intro v' w' hown' hgrow _;obtain⟨g',cap',rfl⟩:=ownsRow_succ hown';have hb2:Blk w' g 203 #[x0,x1,x2,.slice A1 q.length cap]:=(hgrow.block g (by simp;omega) hno).trans (hblk.alloc _);have hcz:w'.cell? ⟨g,3,none⟩=some (.slice A1 q.length cap):=by rw[hb2.cell];rfl
 have hfz:=hb2.frozen 3;have hbg:Below g w w':=((Below.refl g w).alloc (Nat.le_of_lt hR) _).grown hgrow (by simp;omega) (fun k he=>by have:=(hown.lt k he).1;omega);have HO:=η hown';have HB2:=η hb2;have HBG:=η hbg;have HSN:=η hsn;clear hown hown' hgrow hb2 hbg hsn hblk c0 f0;go_wp2;go_returns;refine⟨⟨_,rfl⟩,⟨_,HB2.out.set_ 3 _,?_⟩,HBG.out.setCell (p:=⟨g,3,none⟩) (Nat.le_refl g) _⟩;rw[HSN.out,List.length_append];exact ownsRow_setCell_below HO.out (by simp) _
end Go.Proofs.YtjobifclmcdjcaaGreatDoor
namespace Go.Proofs.YtjobifclmcdjcaaGreatDoor
open Go.RowKit Go.Shelf
attribute [local go_sem] Oper.semAt_some
theorem na_c(k:Nat)(b:Bool)(W:World):(nilAhead (k+1) 176 (.bool b) "reticent/judge.with").run Tryz.prog W=.ok (some false) W:=by kernel_rfl
theorem na_l(k:Nat)(b:Int)(W:World):(nilAhead (k+1) 177 (.int .i64 b) "reticent/judge.with").run Tryz.prog W=.ok (some false) W:=by kernel_rfl
theorem q9n{W:World}{base n cap g:Nat}{e:TypeId}{q0:List Jg.Th}{x y:Jg.Th}(h:W.ownsRow base e 1 (.slice (some ⟨g,0,none⟩) n cap) n (jvs (q0++[x]++[y]))):W.cell? ⟨g,q0.length,none⟩=some (jv x)∧W.cell? ⟨g,q0.length+1,none⟩=some (jv y):=by
 constructor
 ·refine q1g h ?_;unfold jvs;rw[List.getElem?_map];simp
 ·refine q1g h ?_;unfold jvs;rw[List.getElem?_map];simp
theorem q9e(q0:List Jg.Th)(x y:Jg.Th):(jvs (q0++[x]++[y])).take q0.length=jvs q0:=by
 unfold jvs;rw[←List.map_take];simp
theorem j1f{g:Nat}{x0 x1 x2 rv:Value}{names:List ByteArray}{up:List Nat}(labs:List Int){q0:List Jg.Th}(a b:Bool)(n:Int)(hn:n=3∨n=4)(w:World)(h:PJ g x0 x1 x2 rv (q0++[.c a]++[.c b]) w)(hlat:IsLat w g (.agg #[x0,x1]) names up)(hl:q0.length≤1000000) :
  Calls Tryz.prog 167 #[.pointer (some ⟨g,0,none⟩),.int .i64 n] w (PutJ g x0 x1 x2 (q0++[Jg.two (jops up labs) n (.c a) (.c b)]) w):=by
 have hR:=h.lt;have hwith:=fun W (hb:Below w.heap.size w W)=>j19 labs a b n hn W ((hlat.below (hb.mono (Nat.le_of_lt hR))).more (Nat.le_trans (Nat.le_of_lt hR) hb.size))
 obtain⟨gr,cap,rfl,hbg⟩:=q1y h.own (by simp);have hlen:(q0++[Jg.Th.c a]++[Jg.Th.c b]).length=q0.length+2:=by simp
 rw[hlen] at h;have hown:=h.own;rw[hlen] at hown;have d01:w.cell? ⟨gr,q0.length,none⟩=some (.iface 176 (.bool a))∧w.cell? ⟨gr,q0.length+1,none⟩=some (.iface 176 (.bool b)):=q9n hown;obtain⟨d0,d1⟩:=d01;have htk:=q29 hown (k:=q0.length) (by omega);rw[q9e] at htk;have hcap:q0.length+2≤cap:=(ownT_row hown).2;have hblk:=h.blk;obtain⟨⟨A,A',c,c',hx,-,-⟩,-,-,-⟩:=hlat
 injection hx with hx;have hx0:x0=.slice A names.length c:=by have:=congrArg (fun z=>z[0]?) hx;simpa using this
 have hx1:x1=.slice A' up.length c':=by have:=congrArg (fun z=>z[1]?) hx;simpa using this
 subst hx0 hx1;have c0:=hblk.cell 0;have c1:=hblk.cell 1;have c3:=hblk.cell 3;generalize Jg.two (jops up labs) n (.c a) (.c b)=r at hwith ⊢;obtain⟨ty,y,hy⟩:=q45 r;unfold JGave at hwith
 rw[hy] at hwith
 have HY:=η hy;have HW:=η hwith
 have HB:=η hblk;have HT:=η htk;clear h hown hx hn hwith hblk htk hy;obtain⟨i0,hi,hz0,hz1,hz2⟩:=info_parts Tryz.infoJTh;have hmf:∀(fn:Fn) (first cap:Array Value) (w:World),(Instr.makeFunc fn first cap).run Tryz.prog w=.ok (.func fn first cap) w:=fun _ _ _ _=>rfl
 clear hlen;generalize hN:q0.length=N at hl d0 d1 hcap c0 c1 c3 HB HT;have HLN:=η hN;clear hN;have hna:=na_c;have hNc:(N≤cap)=True:=eq_true (by omega);go_enter Tryz.func167,Tryz.ntmps167;go_wp2;go_region;go_wp2;refine Free.region_seq [17,18,19,22] [4,11] 22 (fun W'=>W'.cell? ⟨g,0,none⟩=some (.slice A names.length c)∧W'.cell? ⟨g,1,none⟩=some (.slice A' up.length c')∧W'.cell? ⟨g,3,none⟩=some (.slice (some ⟨gr,0,none⟩) (N+2) cap)) (by kernel_rfl) (by kernel_rfl) (by kernel_rfl) (by kernel_rfl) (⟨c0,c1,c3⟩) (fun ops hops=>?_);clear hops;iterate 17
  refine Free.Seq.quiet (v:=?_) (a':=?_) rfl rfl (fun W' hW'=>?_) ?_ ?_
  rotate_left 2
  ·first|obtain⟨s0,s1,s2⟩:=hW' rfl|skip
   go_simp;try with_reducible rfl
  ·simp only[Act.put,List.setIfInBounds_toArray,List.set_cons_zero,List.set_cons_succ];try with_reducible rfl
 refine Free.Seq.loud_ rfl (.inl rfl) (fun K hK=>?_);go_simp;go_invoke;go_simp;refine(HW.out _ (Below.refl _ w).drew.drew).mono ?_;rintro e w1 ⟨rfl,hb1⟩;have hbw1:Below w.heap.size w w1:=(Below.refl _ w).drew.drew.trans (hb1.mono (Nat.le_refl _));have hk1:=HB.out.below hbw1 hR;have htk1:=q1l HT.out hbw1;have e0:=hk1.cell 0;have e1:=hk1.cell 1;have e3:=hk1.cell 3;refine hK.out _ _ rfl (fun _=>⟨e0,e1,e3⟩) ?_;clear hK K c0 c1 c3 hb1 d0 d1;refine Free.Seq.loud_ rfl (.inl rfl) (fun K hK=>?_);go_simp;refine hK.out _ _ rfl (fun _=>⟨((hk1.alloc _).cell 0),((hk1.alloc _).cell 1),((hk1.alloc _).cell 3)⟩) ?_;clear hK K;refine Free.Seq.loud_ rfl (.inl rfl) (fun K hK=>?_);refine q13 rfl (.tmp 34) (.tmp 46) 201 rfl (g+1) 173 i0 .nilIface 1 16 Tryz.underlying201 hi hz0 hz1 hz2 rfl (by decide) (.slice (some ⟨gr,0,none⟩) N cap) N (jvs q0) rfl (htk1.alloc _) ⟨w1.heap.size,0,none⟩ 1 1 [.iface ty y] rfl rfl (q04 w1 [.iface ty y] 173) (by simp[Value.oneCell']) (by unfold maxLen;omega) (by omega) (by have:=hbw1.size;simp;omega) ?_;intro v' w' hown' hgrow hob';obtain⟨g',cap',rfl⟩:=ownsRow_succ hown';have hno:some g≠(Value.slice (some ⟨gr,0,none⟩) N cap).ownBlock:=fun he=>by have:=(htk1.lt _ he.symm).1;omega
 have hk2:=q88 hk1 hno hgrow;refine hK.out _ _ rfl (fun _=>⟨hk2.cell 0,hk2.cell 1,hk2.cell 3⟩) ?_;clear hK K;iterate 2
  refine Free.Seq.quiet (v:=?_) (a':=?_) rfl rfl (fun W' hW'=>?_) ?_ ?_
  rotate_left 2
  ·first|obtain⟨s0,s1,s2⟩:=hW' rfl|skip
   go_simp;try with_reducible rfl
  ·simp only[Act.put,List.setIfInBounds_toArray,List.set_cons_zero,List.set_cons_succ];try with_reducible rfl
 have hcz:w'.cell? ⟨g,3,none⟩=some (.slice (some ⟨gr,0,none⟩) (N+2) cap):=hk2.cell 3;have hfz:=hk2.frozen 3;refine Free.Seq.loud_ rfl (.inl rfl) (fun K hK=>?_);go_simp;refine hK.out _ _ rfl (fun h=>absurd h (by decide)) ?_;clear hK K;refine Free.Seq.nil_ ?_;have hbg1:Below g w w':=(((hbw1.mono (Nat.le_of_lt hR)).alloc (by have:=hbw1.size;omega) _)).grown hgrow (by have:=hbw1.size;simp;omega) (fun k he=>by have:=(htk1.lt k he).1;omega);have HO:=η hown';have HBG:=η hbg1;have HK2:=η hk2;clear hown' hgrow hob' hbg1 hk2 hcz hfz htk1 hk1 e0 e1 e3 hbw1;go_wp2;go_returns;refine⟨⟨_,rfl⟩,⟨_,HK2.out.set_ 3 _,?_⟩,HBG.out.setCell (p:=⟨g,3,none⟩) (Nat.le_refl g) _⟩;rw[q7l,List.length_append,HLN.out,HY.out];exact ownsRow_setCell_below HO.out (by simp) _
theorem j1g{g:Nat}{x0 x1 x2 rv:Value}{names:List ByteArray}{up:List Nat}(labs:List Int){q0:List Jg.Th}(a b:Nat)(n:Int)(hn:n=5∨n=12∨n=13)(w:World)(h:PJ g x0 x1 x2 rv (q0++[.l a]++[.l b]) w)(hlat:IsLat w g (.agg #[x0,x1]) names up)(hz:checkN names up=0)(ha:a<up.length)(hb':b<up.length)(hl:q0.length≤1000000) :
  Calls Tryz.prog 167 #[.pointer (some ⟨g,0,none⟩),.int .i64 n] w (PutJ g x0 x1 x2 (q0++[Jg.two (jops up labs) n (.l a) (.l b)]) w):=by
 have hR:=h.lt;have hwith:=fun W (hb:Below w.heap.size w W)=>j2a labs a b n hn W ((hlat.below (hb.mono (Nat.le_of_lt hR))).more (Nat.le_trans (Nat.le_of_lt hR) hb.size)) hz ha hb'
 obtain⟨gr,cap,rfl,hbg⟩:=q1y h.own (by simp);have hlen:(q0++[Jg.Th.l a]++[Jg.Th.l b]).length=q0.length+2:=by simp
 rw[hlen] at h;have hown:=h.own;rw[hlen] at hown;have d01:w.cell? ⟨gr,q0.length,none⟩=some (.iface 177 (.int .i64 (a:Int)))∧w.cell? ⟨gr,q0.length+1,none⟩=some (.iface 177 (.int .i64 (b:Int))):=q9n hown;obtain⟨d0,d1⟩:=d01;have htk:=q29 hown (k:=q0.length) (by omega);rw[q9e] at htk;have hcap:q0.length+2≤cap:=(ownT_row hown).2;have hblk:=h.blk;obtain⟨⟨A,A',c,c',hx,-,-⟩,-,-,-⟩:=hlat
 injection hx with hx;have hx0:x0=.slice A names.length c:=by have:=congrArg (fun z=>z[0]?) hx;simpa using this
 have hx1:x1=.slice A' up.length c':=by have:=congrArg (fun z=>z[1]?) hx;simpa using this
 subst hx0 hx1;have c0:=hblk.cell 0;have c1:=hblk.cell 1;have c3:=hblk.cell 3;generalize Jg.two (jops up labs) n (.l a) (.l b)=r at hwith ⊢;obtain⟨ty,y,hy⟩:=q45 r;unfold JGave at hwith
 rw[hy] at hwith
 have HY:=η hy;have HW:=η hwith
 have HB:=η hblk;have HT:=η htk;clear h hown hx hn hz ha hb' hwith hblk htk hy;obtain⟨i0,hi,hz0,hz1,hz2⟩:=info_parts Tryz.infoJTh;have hmf:∀(fn:Fn) (first cap:Array Value) (w:World),(Instr.makeFunc fn first cap).run Tryz.prog w=.ok (.func fn first cap) w:=fun _ _ _ _=>rfl
 clear hlen;generalize hN:q0.length=N at hl d0 d1 hcap c0 c1 c3 HB HT;have HLN:=η hN;clear hN;have hna:=na_l;have hNc:(N≤cap)=True:=eq_true (by omega);go_enter Tryz.func167,Tryz.ntmps167;go_wp2;go_region;go_wp2;refine Free.region_seq [17,18,19,22] [4,11] 22 (fun W'=>W'.cell? ⟨g,0,none⟩=some (.slice A names.length c)∧W'.cell? ⟨g,1,none⟩=some (.slice A' up.length c')∧W'.cell? ⟨g,3,none⟩=some (.slice (some ⟨gr,0,none⟩) (N+2) cap)) (by kernel_rfl) (by kernel_rfl) (by kernel_rfl) (by kernel_rfl) (⟨c0,c1,c3⟩) (fun ops hops=>?_);clear hops;iterate 17
  refine Free.Seq.quiet (v:=?_) (a':=?_) rfl rfl (fun W' hW'=>?_) ?_ ?_
  rotate_left 2
  ·first|obtain⟨s0,s1,s2⟩:=hW' rfl|skip
   go_simp;try with_reducible rfl
  ·simp only[Act.put,List.setIfInBounds_toArray,List.set_cons_zero,List.set_cons_succ];try with_reducible rfl
 refine Free.Seq.loud_ rfl (.inl rfl) (fun K hK=>?_);go_simp;go_invoke;go_simp;refine(HW.out _ (Below.refl _ w).drew.drew).mono ?_;rintro e w1 ⟨rfl,hb1⟩;have hbw1:Below w.heap.size w w1:=(Below.refl _ w).drew.drew.trans (hb1.mono (Nat.le_refl _));have hk1:=HB.out.below hbw1 hR;have htk1:=q1l HT.out hbw1;have e0:=hk1.cell 0;have e1:=hk1.cell 1;have e3:=hk1.cell 3;refine hK.out _ _ rfl (fun _=>⟨e0,e1,e3⟩) ?_;clear hK K c0 c1 c3 hb1 d0 d1;refine Free.Seq.loud_ rfl (.inl rfl) (fun K hK=>?_);go_simp;refine hK.out _ _ rfl (fun _=>⟨((hk1.alloc _).cell 0),((hk1.alloc _).cell 1),((hk1.alloc _).cell 3)⟩) ?_;clear hK K;refine Free.Seq.loud_ rfl (.inl rfl) (fun K hK=>?_);refine q13 rfl (.tmp 34) (.tmp 46) 201 rfl (g+1) 173 i0 .nilIface 1 16 Tryz.underlying201 hi hz0 hz1 hz2 rfl (by decide) (.slice (some ⟨gr,0,none⟩) N cap) N (jvs q0) rfl (htk1.alloc _) ⟨w1.heap.size,0,none⟩ 1 1 [.iface ty y] rfl rfl (q04 w1 [.iface ty y] 173) (by simp[Value.oneCell']) (by unfold maxLen;omega) (by omega) (by have:=hbw1.size;simp;omega) ?_;intro v' w' hown' hgrow hob';obtain⟨g',cap',rfl⟩:=ownsRow_succ hown';have hno:some g≠(Value.slice (some ⟨gr,0,none⟩) N cap).ownBlock:=fun he=>by have:=(htk1.lt _ he.symm).1;omega
 have hk2:=q88 hk1 hno hgrow;refine hK.out _ _ rfl (fun _=>⟨hk2.cell 0,hk2.cell 1,hk2.cell 3⟩) ?_;clear hK K;iterate 2
  refine Free.Seq.quiet (v:=?_) (a':=?_) rfl rfl (fun W' hW'=>?_) ?_ ?_
  rotate_left 2
  ·first|obtain⟨s0,s1,s2⟩:=hW' rfl|skip
   go_simp;try with_reducible rfl
  ·simp only[Act.put,List.setIfInBounds_toArray,List.set_cons_zero,List.set_cons_succ];try with_reducible rfl
 have hcz:w'.cell? ⟨g,3,none⟩=some (.slice (some ⟨gr,0,none⟩) (N+2) cap):=hk2.cell 3;have hfz:=hk2.frozen 3;refine Free.Seq.loud_ rfl (.inl rfl) (fun K hK=>?_);go_simp;refine hK.out _ _ rfl (fun h=>absurd h (by decide)) ?_;clear hK K;refine Free.Seq.nil_ ?_;have hbg1:Below g w w':=(((hbw1.mono (Nat.le_of_lt hR)).alloc (by have:=hbw1.size;omega) _)).grown hgrow (by have:=hbw1.size;simp;omega) (fun k he=>by have:=(htk1.lt k he).1;omega);have HO:=η hown';have HBG:=η hbg1;have HK2:=η hk2;clear hown' hgrow hob' hbg1 hk2 hcz hfz htk1 hk1 e0 e1 e3 hbw1;go_wp2;go_returns;refine⟨⟨_,rfl⟩,⟨_,HK2.out.set_ 3 _,?_⟩,HBG.out.setCell (p:=⟨g,3,none⟩) (Nat.le_refl g) _⟩;rw[q7l,List.length_append,HLN.out,HY.out];exact ownsRow_setCell_below HO.out (by simp) _
end Go.Proofs.YtjobifclmcdjcaaGreatDoor
namespace Go.Proofs.YtjobifclmcdjcaaGreatDoor
open Go.RowKit Go.Shelf
structure Labs (w:World) (B:Nat) (L:Option Addr) (up:List Nat) (labs:List Int):Prop where
 row:Row w B L (ints labs)
 four:labs.length=4
 ok:∀ a ∈ labs,0≤a∧a<up.length
theorem Labs.below{w w':World}{B:Nat}{L:Option Addr}{up:List Nat}{labs:List Int}(h:Labs w B L up labs)(hb:Below B w w'):Labs w' B L up labs:=⟨h.row.below hb,h.four,h.ok⟩
theorem q4x{names:List ByteArray}{up:List Nat}(hz:checkN names up=0)(labs:List Int):bottomR names up=(jops up labs).bot:=by
 unfold bottomR;rw[if_pos hz];rfl
theorem j1t{names:List ByteArray}{up:List Nat}(hz:checkN names up=0)(labs:List Int):topR names up=(jops up labs).top:=by
 unfold topR;rw[if_pos hz];rfl
theorem z99{g:Nat}{x0 x1 rv:Value}{L:Option Addr}{names:List ByteArray}{up:List Nat}{labs:List Int}{q:List Jg.Th}(cl:Nat)(n:Int)(hn:n=1∨n=2∨n=6∨n=7∨n=8∨n=9∨n=10∨n=11)(w:World)(h:PJ g x0 x1 (.slice L labs.length cl) rv q w)(hlat:IsLat w g (.agg #[x0,x1]) names up)(hz:checkN names up=0)(hlab:Labs w g L up labs)(hl:q.length≤1000000) :
  Calls Tryz.prog 151 #[.pointer (some ⟨g,0,none⟩),.int .i64 n] w (PutJ g x0 x1 (.slice L labs.length cl) (q++[Jg.one (jops up labs) n]) w):=by
 have hR:=h.lt;have hput:=fun x W (hb:Below w.heap.size w W)=>z9h x W (h.kept hb) hl
 have hbo:=q7x w (hlat.more (Nat.le_of_lt hR));have hto:=j0o w (hlat.more (Nat.le_of_lt hR));rw[hz,q4x hz labs] at hbo;rw[hz,j1t hz labs] at hto;have hblk:=h.blk;have c0:=hblk.cell 0;have c1:=hblk.cell 1;have c2:w.cell? ⟨g,2,none⟩=some (.slice L labs.length cl):=by rw[hblk.cell];rfl
 have h4:=hlab.four;obtain⟨ad,hL,hlb,d0⟩:=q0y hlab.row (k:=0) (by omega);obtain⟨_,hL1,_,d1⟩:=q0y hlab.row (k:=1) (by omega);obtain⟨_,hL2,_,d2⟩:=q0y hlab.row (k:=2) (by omega);obtain⟨_,hL3,_,d3⟩:=q0y hlab.row (k:=3) (by omega);subst hL;injection hL1 with hL1;injection hL2 with hL2;injection hL3 with hL3;subst hL1 hL2 hL3;have hk:∀(k:Nat) (hk:k<4),labs[k]=((jops up labs).lab k:Int):=fun k hk=>by
  have:=(hlab.ok _ (List.getElem_mem (show k<labs.length by omega))).1;show _=(((labs.getD k 0).toNat:Nat):Int);rw[List.getD_eq_getElem?_getD,List.getElem?_eq_getElem (by omega)];simp only[Option.getD_some];omega
 have d0:w.cell? ad=some (.int .i64 labs[0]):=d0;have d1:w.cell? ⟨ad.block,ad.off+1,none⟩=some (.int .i64 labs[1]):=d1;have d2:w.cell? ⟨ad.block,ad.off+2,none⟩=some (.int .i64 labs[2]):=d2;have d3:w.cell? ⟨ad.block,ad.off+3,none⟩=some (.int .i64 labs[3]):=d3;rw[hk 0 (by omega)] at d0;rw[hk 1 (by omega)] at d1;rw[hk 2 (by omega)] at d2;rw[hk 3 (by omega)] at d3;rw[h4] at hput c2 ⊢;have e1:jv (Jg.one (jops up labs) 1)=.iface 176 (.bool true):=rfl;have e2:jv (Jg.one (jops up labs) 2)=.iface 176 (.bool false):=rfl;have e6:jv (Jg.one (jops up labs) 6)=.iface 177 (.int .i64 ((jops up labs).bot:Nat)):=rfl;have e7:jv (Jg.one (jops up labs) 7)=.iface 177 (.int .i64 ((jops up labs).top:Nat)):=rfl;have e8:jv (Jg.one (jops up labs) 8)=.iface 177 (.int .i64 ((jops up labs).lab 0:Nat)):=rfl;have e9:jv (Jg.one (jops up labs) 9)=.iface 177 (.int .i64 ((jops up labs).lab 1:Nat)):=rfl;have e10:jv (Jg.one (jops up labs) 10)=.iface 177 (.int .i64 ((jops up labs).lab 2:Nat)):=rfl;have e11:jv (Jg.one (jops up labs) 11)=.iface 177 (.int .i64 ((jops up labs).lab 3:Nat)):=rfl;have p1:=hput (Jg.one (jops up labs) 1);have p2:=hput (Jg.one (jops up labs) 2);have p6:=hput (Jg.one (jops up labs) 6);have p7:=hput (Jg.one (jops up labs) 7);have p8:=hput (Jg.one (jops up labs) 8);have p9:=hput (Jg.one (jops up labs) 9);have p10:=hput (Jg.one (jops up labs) 10);have p11:=hput (Jg.one (jops up labs) 11);rw[e1] at p1;rw[e2] at p2;rw[e6] at p6;rw[e7] at p7;rw[e8] at p8;rw[e9] at p9;rw[e10] at p10;rw[e11] at p11;have P1:=η p1;have P2:=η p2;have P6:=η p6;have P7:=η p7;have P8:=η p8;have P9:=η p9;have P10:=η p10;have P11:=η p11;have HBO:=η hbo;have HTO:=η hto;have HS:Hid (g≤w.heap.size):=Nat.le_of_lt hR;clear h hlat hz hlab hput hbo hto hblk hk e1 e2 e6 e7 e8 e9 e10 e11 p1 p2 p6 p7 p8 p9 p10 p11;rcases hn with rfl|rfl|rfl|rfl|rfl|rfl|rfl|rfl
 ·go_enter Tryz.func151,Tryz.ntmps151;go_wp2_with (fail);refine(P1.out w (Below.refl _ _)).mono ?_;rintro e w1 ⟨⟨u,rfl⟩,hp1,hb1⟩;have HP:=η hp1;have HB:=η hb1;clear hp1 hb1;go_wp2;go_returns;exact⟨⟨_,rfl⟩,HP.out,HB.out⟩
 ·go_enter Tryz.func151,Tryz.ntmps151;go_wp2_with (fail);refine(P2.out w (Below.refl _ _)).mono ?_;rintro e w1 ⟨⟨u,rfl⟩,hp1,hb1⟩;have HP:=η hp1;have HB:=η hb1;clear hp1 hb1;go_wp2;go_returns;exact⟨⟨_,rfl⟩,HP.out,HB.out⟩
 ·go_enter Tryz.func151,Tryz.ntmps151;go_wp2_with (fail);refine HBO.out.mono ?_;rintro e w2 ⟨rfl,hb2⟩;have H6:=η (P6.out w2 hb2);have HB2:=η hb2;clear hb2;go_wp2_with (fail);refine H6.out.mono ?_;rintro e w1 ⟨⟨u,rfl⟩,hp1,hb1⟩;have HP:=η hp1;have HB:=η ((HB2.out.mono HS.out).trans hb1);clear hp1 hb1;go_wp2;go_returns;exact⟨⟨_,rfl⟩,HP.out,HB.out⟩
 ·go_enter Tryz.func151,Tryz.ntmps151;go_wp2_with (fail);refine HTO.out.mono ?_;rintro e w2 ⟨rfl,hb2⟩;have H7:=η (P7.out w2 hb2);have HB2:=η hb2;clear hb2;go_wp2_with (fail);refine H7.out.mono ?_;rintro e w1 ⟨⟨u,rfl⟩,hp1,hb1⟩;have HP:=η hp1;have HB:=η ((HB2.out.mono HS.out).trans hb1);clear hp1 hb1;go_wp2;go_returns;exact⟨⟨_,rfl⟩,HP.out,HB.out⟩
 ·go_enter Tryz.func151,Tryz.ntmps151;go_wp2_with (fail);refine(P8.out w (Below.refl _ _)).mono ?_;rintro e w1 ⟨⟨u,rfl⟩,hp1,hb1⟩;have HP:=η hp1;have HB:=η hb1;clear hp1 hb1;go_wp2;go_returns;exact⟨⟨_,rfl⟩,HP.out,HB.out⟩
 ·go_enter Tryz.func151,Tryz.ntmps151;go_wp2_with (fail);refine(P9.out w (Below.refl _ _)).mono ?_;rintro e w1 ⟨⟨u,rfl⟩,hp1,hb1⟩;have HP:=η hp1;have HB:=η hb1;clear hp1 hb1;go_wp2;go_returns;exact⟨⟨_,rfl⟩,HP.out,HB.out⟩
 ·go_enter Tryz.func151,Tryz.ntmps151;go_wp2_with (fail);refine(P10.out w (Below.refl _ _)).mono ?_;rintro e w1 ⟨⟨u,rfl⟩,hp1,hb1⟩;have HP:=η hp1;have HB:=η hb1;clear hp1 hb1;go_wp2;go_returns;exact⟨⟨_,rfl⟩,HP.out,HB.out⟩
 ·go_enter Tryz.func151,Tryz.ntmps151;go_wp2_with (fail);refine(P11.out w (Below.refl _ _)).mono ?_;rintro e w1 ⟨⟨u,rfl⟩,hp1,hb1⟩;have HP:=η hp1;have HB:=η hb1;clear hp1 hb1;go_wp2;go_returns;exact⟨⟨_,rfl⟩,HP.out,HB.out⟩
theorem j0a{g:Nat}{x0 x1 x2 rv:Value}{names:List ByteArray}{up:List Nat}(labs:List Int){q0:List Jg.Th}(x y:Jg.Th)(n:Int)(hn:((n=3∨n=4)∧Jg.sort x=false∧Jg.sort y=false)∨((n=5∨n=12∨n=13)∧Jg.sort x=true∧Jg.sort y=true))(w:World)(h:PJ g x0 x1 x2 rv (q0++[x]++[y]) w)(hlat:IsLat w g (.agg #[x0,x1]) names up)(hz:checkN names up=0)(hx:Jg.Good up.length x)(hy:Jg.Good up.length y)(hl:q0.length≤1000000) :
  Calls Tryz.prog 151 #[.pointer (some ⟨g,0,none⟩),.int .i64 n] w (PutJ g x0 x1 x2 (q0++[Jg.two (jops up labs) n x y]) w):=by
 have hc:Calls Tryz.prog 167 #[.pointer (some ⟨g,0,none⟩),.int .i64 n] w (PutJ g x0 x1 x2 (q0++[Jg.two (jops up labs) n x y]) w):=by
  rcases hn with⟨hn,hs,ht⟩|⟨hn,hs,ht⟩
  ·cases x with
   | l _=>cases hs
   | c a =>
    cases y with
    | l _=>cases ht
    | c b=>exact j1f labs a b n hn w h hlat hl
  ·cases x with
   | c _=>cases hs
   | l a =>
    cases y with
    | c _=>cases ht
    | l b=>exact j1g labs a b n hn w h hlat hz hx hy hl
 have HC:=η hc;have h1:(n==1)=false:=by rw[beq_eq_false_iff_ne];omega
 have h2:(n==2)=false:=by rw[beq_eq_false_iff_ne];omega
 have h6:(n==6)=false:=by rw[beq_eq_false_iff_ne];omega
 have h7:(n==7)=false:=by rw[beq_eq_false_iff_ne];omega
 have h8:(n==8)=false:=by rw[beq_eq_false_iff_ne];omega
 have h9:(n==9)=false:=by rw[beq_eq_false_iff_ne];omega
 have h10:(n==10)=false:=by rw[beq_eq_false_iff_ne];omega
 have h11:(n==11)=false:=by rw[beq_eq_false_iff_ne];omega
 clear hn h hlat hz hx hy hc;go_enter Tryz.func151,Tryz.ntmps151;go_wp2_with (fail);refine HC.out.mono ?_;rintro e w1 ⟨⟨u,rfl⟩,hp1,hb1⟩;have HP:=η hp1;have HB:=η hb1;clear hp1 hb1;go_wp2;go_returns;exact⟨⟨_,rfl⟩,HP.out,HB.out⟩
theorem z6o{g:Nat}{x0 x1 rv:Value}{L:Option Addr}{names:List ByteArray}{up:List Nat}{labs:List Int}{q:List Jg.Th}{p':List Bool}(cl:Nat)(n:Int)(hk:Jg.Kind q n p')(w:World)(h:PJ g x0 x1 (.slice L labs.length cl) rv q w)(hlat:IsLat w g (.agg #[x0,x1]) names up)(hz:checkN names up=0)(hlab:Labs w g L up labs)(hg:∀ x ∈ q,Jg.Good up.length x)(hl:q.length≤1000000) :
  Calls Tryz.prog 151 #[.pointer (some ⟨g,0,none⟩),.int .i64 n] w (PutJ g x0 x1 (.slice L labs.length cl) (Jg.step (jops up labs) q n) w):=by
 cases hk with
 | one b hb =>
  rw[Jg.step_one _ (Jg.isTwo_leaf hb)];refine z99 cl n ?_ w h hlat hz hlab hl;unfold Sh.Ok at hb;omega
 | two q0 x y a b hq hx hy hn =>
  subst hq;rw[Jg.step_snoc _ (decide_eq_true (by omega))];refine j0a labs x y n ?_ w h hlat hz (hg x (by simp)) (hg y (by simp)) (by simp at hl;omega);rcases hn with⟨h1,rfl,_⟩|⟨h1,rfl,_⟩|⟨h1,rfl,_⟩
  ·exact .inl ⟨h1,hx,hy⟩
  ·exact .inr ⟨.inl h1,hx,hy⟩
  ·exact .inr ⟨by omega,hx,hy⟩
def labsOk(up:List Nat)(labs:List Int):Bool:=decide (labs.length=4∧∀ a ∈ labs,0≤a∧a<up.length)
def jWhy(names:List ByteArray)(up:List Nat)(rule labs:List Int)(sort:Bool):Nat :=
 if checkN names up=0 then if Rl.right rule sort=true then if labsOk up labs=true then 0 else 9 else 1 else checkN names up
def Whyed(w:World)(n:Nat)(e:Ending)(w':World):Prop:=e=.returned (.int .i64 (n:Int))∧Below w.heap.size w w'
theorem z4t{v:Value}{names:List ByteArray}{up:List Nat}{R L:Option Addr}{rule labs:List Int}(cr cl:Nat)(sort:Bool)(w:World)(h:IsLat w w.heap.size v names up)(hr:Row w w.heap.size R (ints rule))(hrl:rule.length≤1000000)(hl:Row w w.heap.size L (ints labs))(_:labs.length≤1000000) :
  Calls Tryz.prog 150 #[v,.slice R rule.length cr,.slice L labs.length cl,.bool sort] w (Whyed w (jWhy names up rule labs sort)):=by
 have h':=h;obtain⟨⟨A,A',c,c',rfl,hN,hU⟩,-,⟨-,hf2⟩,-⟩:=h';have hb0:Below w.heap.size w (w.alloc (.cells #[.slice A names.length c,.slice A' up.length c'] 25)):=(Below.refl _ w).alloc (Nat.le_refl _) _;have p0:Blk (w.alloc (.cells #[.slice A names.length c,.slice A' up.length c'] 25)) w.heap.size 25 #[.slice A names.length c,.slice A' up.length c']:=Blk.new _ _ _;have hch:=q2r _ (h.boxed (.cells #[.slice A names.length c,.slice A' up.length c'] 25));have hri:=fun W (hb:Below w.heap.size w W)=>q2u cr sort W ((hr.below hb).more hb.size) hrl
 have HJ:Hid (jWhy names up rule labs sort=if checkN names up=0 then if Rl.right rule sort=true then if labsOk up labs=true then 0 else 9 else 1 else checkN names up):=rfl;obtain⟨res,hres⟩:∃ res,jWhy names up rule labs sort=res:=⟨_,rfl⟩;rw[hres] at HJ ⊢;obtain⟨n,hn⟩:∃ n,checkN names up=n:=⟨_,rfl⟩;rw[hn] at hch HJ;obtain⟨ok,hok⟩:∃ ok,Rl.right rule sort=ok:=⟨_,rfl⟩;rw[hok] at hri HJ;have HP0:=η p0;have HB0:=η hb0;have HCH:=η hch;have HRI:=η hri;have HL:=η hl;unfold Whyed;clear p0 hb0 hch hri hres hn hok h hr hN hU hrl hl;by_cases hz:n=0
 ·subst hz;cases ok with
  | false =>
   go_enter Tryz.func150,Tryz.ntmps150;go_wp2_with (fail);refine HCH.out.mono ?_;rintro e w1 ⟨rfl,hb1⟩;have HB1:=η (HB0.out.trans (hb1.mono (by simp)));have HR1:=η (HRI.out w1 HB1.out);clear hb1;go_wp2_with (fail);refine HR1.out.mono ?_;rintro e w2 ⟨rfl,hb2⟩;have HB2:=η (HB1.out.trans (hb2.mono HB1.out.size));clear hb2;go_wp2;go_ret;exact⟨q0v (by rw[HJ.out];simp),HB2.out⟩
  | true =>
   by_cases h4:labs.length=4
   ·have hlen:((labs.length:Int)==4)=true:=by rw[h4];rfl
    go_enter Tryz.func150,Tryz.ntmps150;go_wp2_with (fail);refine HCH.out.mono ?_;rintro e w1 ⟨rfl,hb1⟩;have HB1:=η (HB0.out.trans (hb1.mono (by simp)));have HR1:=η (HRI.out w1 HB1.out);have HP1:=η (HP0.out.below hb1 (by simp));clear hb1;go_wp2_with (fail);refine HR1.out.mono ?_;rintro e w2 ⟨rfl,hb2⟩;have HB2:=η (HB1.out.trans (hb2.mono HB1.out.size));have hc1:w2.cell? ⟨w.heap.size,1,none⟩=some (.slice A' up.length c'):=by rw[(HP1.out.below hb2 HP1.out.lt).cell];rfl
    clear hb2;go_wp2;go_loopw [26] (fun i wr=>∃(k:Nat),k≤labs.length∧i=.int .i64 k∧wr=w2∧Hid (∀ a ∈ labs.take k,0≤a∧a<up.length)) (fun i _=>labs.length-(intOf i).toNat);case atStart=>exact⟨0,Nat.zero_le _,rfl,rfl,η (by simp)⟩
    case round =>
     obtain⟨k,hk,rfl,rfl,HK⟩:=hrel;by_cases hlt:k<labs.length
     ·obtain⟨ad,hA,hb,c0⟩:=q0y (HL.out.below HB2.out) hlt;have HMEM:=η (List.getElem_mem hlt);have HTK:=η (q4g hlt);rw[hA];clear hA;generalize labs[k]=x at *;by_cases hx0:x<0
      ·go_wp2;go_ret;refine⟨q0v ?_,HB2.out⟩;have:labsOk up labs=false:=decide_eq_false fun h1=>by have:=(h1.2 x HMEM.out).1;omega
       rw[HJ.out,this];simp
      ·by_cases hx1:(up.length:Int)≤x
       ·go_wp2;go_ret;refine⟨q0v ?_,HB2.out⟩;have:labsOk up labs=false:=decide_eq_false fun h1=>by have:=(h1.2 x HMEM.out).2;omega
        rw[HJ.out,this];simp
       ·have HNX:Hid (∀ a ∈ labs.take (k+1),0≤a∧a<up.length):=η (by
         rw[HTK.out];intro a ha;rcases List.mem_append.1 ha with ha|ha
         ·exact HK.out a ha
         ·rw[List.mem_singleton.1 ha];omega)
        go_wp2;go_roundw;case rel=>exact⟨k+1,by omega,by go_num,trivial,HNX⟩
        case measure=>simp[intOf];omega
     ·obtain rfl:k=labs.length:=by omega
      have HA:=HK.out;rw[List.take_length] at HA;have HA2:=η HA;clear HA;go_wp2;go_ret;refine⟨q0v ?_,HB2.out⟩;have:labsOk up labs=true:=decide_eq_true ⟨h4,HA2.out⟩;rw[HJ.out,this];simp
   ·have hlen:((labs.length:Int)==4)=false:=by rw[beq_eq_false_iff_ne];omega
    go_enter Tryz.func150,Tryz.ntmps150;go_wp2_with (fail);refine HCH.out.mono ?_;rintro e w1 ⟨rfl,hb1⟩;have HB1:=η (HB0.out.trans (hb1.mono (by simp)));have HR1:=η (HRI.out w1 HB1.out);clear hb1;go_wp2_with (fail);refine HR1.out.mono ?_;rintro e w2 ⟨rfl,hb2⟩;have HB2:=η (HB1.out.trans (hb2.mono HB1.out.size));clear hb2;go_wp2;go_ret;refine⟨q0v ?_,HB2.out⟩;have:labsOk up labs=false:=decide_eq_false fun h1=>h4 h1.1
    rw[HJ.out,this];simp
 ·have hz1:((n:Int)==0)=false:=by rw[beq_eq_false_iff_ne];omega
  have hz2:((n:Int) != 0)=true:=by rw[bne_iff_ne];omega
  go_enter Tryz.func150,Tryz.ntmps150;go_wp2_with (fail);refine HCH.out.mono ?_;rintro e w1 ⟨rfl,hb1⟩;have HB1:=η (HB0.out.trans (hb1.mono (by simp)));clear hb1;go_wp2;go_ret;exact⟨q0v (by rw[HJ.out,if_neg hz]),HB1.out⟩
structure JAt (w:World) (g:Nat) (x0 x1 x2:Value) (up:List Nat) (rule labs:List Int) (k:Nat) (q:List Jg.Th) (rv:Value) (W:World):Prop where
 pj:PJ g x0 x1 x2 rv q W
 below:Below g w W
 go:Rl.pileOf [] rule=Rl.pileOf (Jg.sorts q) (rule.drop k)
 mach:Jg.mach (jops up labs) [] rule=Jg.mach (jops up labs) q (rule.drop k)
 good:∀ x ∈ q,Jg.Good up.length x
 len:q.length≤k
theorem j08(o:Jg.Ops){rule:List Int}{q:List Jg.Th}{k:Nat}(hk:k<rule.length):Jg.mach o q (rule.drop k)=Jg.mach o (Jg.step o q rule[k]) (rule.drop (k+1)):=by
 rw[List.drop_eq_getElem_cons hk,Jg.mach]
theorem z3t{names:List ByteArray}{up:List Nat}{labs:List Int}(hz:checkN names up=0)(hl:labsOk up labs=true):(jops up labs).Fine up.length:=by
 have hL:=q2s hz;obtain⟨h4,hok⟩:=of_decide_eq_true hl;refine⟨fun a b ha hb=>?_,fun a b ha hb=>?_,?_,?_,fun k hk=>?_⟩
 ·obtain⟨c,hc,hlt,_⟩:=hL.join_spec ha hb;have:=hL.rJoin_eq ha hb;show Lat.leastN up (Lat.joinS up a b)<up.length;omega
 ·obtain⟨c,hc,hlt,_⟩:=hL.meet_spec ha hb;have:=hL.rMeet_eq ha hb;show Lat.leastN (Lat.turned up) (Lat.joinS (Lat.turned up) a b)<up.length;omega
 ·show Lat.leastN up (Lat.allS up.length)<up.length;rw[hL.bottom];exact(hL.bot_to _ (Nat.le_refl _)).1
 ·show Lat.leastN (Lat.turned up) (Lat.allS up.length)<up.length;rw[hL.top];exact(hL.top_to _ (Nat.le_refl _)).1
 ·show(labs.getD k 0).toNat<up.length;rw[List.getD_eq_getElem?_getD,List.getElem?_eq_getElem (by omega),Option.getD_some];have:=hok _ (List.getElem_mem (show k<labs.length by omega));omega
def Judged(w:World)(up:List Nat)(rule labs:List Int)(n:Nat)(e:Ending)(w':World):Prop :=
 e=.returned (.tuple #[if n=0 then jv (Jg.val (jops up labs) rule) else .nilIface,.int .i64 (n:Int)])∧Below w.heap.size w w'
theorem q9d{names:List ByteArray}{up:List Nat}{rule labs:List Int}{sort:Bool}(h:jWhy names up rule labs sort=0):checkN names up=0∧Rl.right rule sort=true∧labsOk up labs=true:=by
 unfold jWhy at h;split at h
 ·rename_i h1
  split at h
  ·rename_i h2
   split at h
   ·rename_i h3;exact⟨h1,h2,h3⟩
   ·cases h
  ·cases h
 ·rename_i h1;exact absurd h h1
theorem q74{v:Value}{names:List ByteArray}{up:List Nat}{R L:Option Addr}{rule labs:List Int}(cr cl:Nat)(sort:Bool)(w:World)(h:IsLat w w.heap.size v names up)(hr:Row w w.heap.size R (ints rule))(hrl:rule.length≤1000000)(hl:Row w w.heap.size L (ints labs))(hll:labs.length≤1000000) :
  Calls Tryz.prog 130 #[v,.slice R rule.length cr,.slice L labs.length cl,.bool sort] w (Judged w up rule labs (jWhy names up rule labs sort)):=by
 have h':=h;obtain⟨⟨A,A',c,c',rfl,hN,hU⟩,-,⟨-,hf2⟩,-⟩:=h';have hb0:Below w.heap.size w (w.alloc (.cells #[.slice A names.length c,.slice A' up.length c'] 25)):=(Below.refl _ w).alloc (Nat.le_refl _) _;have p0:Blk (w.alloc (.cells #[.slice A names.length c,.slice A' up.length c'] 25)) w.heap.size 25 #[.slice A names.length c,.slice A' up.length c']:=Blk.new _ _ _;have hch:=z4t (labs:=labs) cr cl sort _ (h.boxed (.cells #[.slice A names.length c,.slice A' up.length c'] 25)) ((hr.below hb0).more hb0.size) hrl ((hl.below hb0).more hb0.size) hll;obtain⟨n,hn⟩:∃ n,jWhy names up rule labs sort=n:=⟨_,rfl⟩;rw[hn] at hch ⊢;have HP0:=η p0;have HB0:=η hb0;have HCH:=η hch;have HN:=η hn;have H:=η h;have HR:=η hr;have HL:=η hl;unfold Judged;clear p0 hb0 hch hn h hr hl hN hU hll;by_cases hz:n=0
 ·subst hz;obtain⟨z1,z2,z3⟩:=q9d HN.out;have HZ1:=η z1;have HZ2:=η z2;have HZ3:=η z3;have hpo:=(of_decide_eq_true z2).2;have HPO:=η hpo;have hr40:rule.length≤40:=(of_decide_eq_true z2).1;clear z1 z2 z3 hpo;obtain⟨res,hres⟩:∃ res,(Value.tuple #[if 0=0 then jv (Jg.val (jops up labs) rule) else .nilIface,.int .i64 ((0:Nat):Int)])=res:=⟨_,rfl⟩;rw[hres];have HRES:=η hres;clear hres;go_enter Tryz.func130,Tryz.ntmps130;go_wp2_with (fail);refine HCH.out.mono ?_;rintro e w1 ⟨rfl,hb1⟩;have HB1:=η (HB0.out.trans (hb1.mono (by simp)));have HP1:=η (HP0.out.below hb1 (by simp));have hc0:=HP1.out.cell 0;have hc1:=HP1.out.cell 1;clear hb1;go_wp2;obtain⟨w2,hw2⟩:∃ w2,w1.alloc (.cells #[.slice A names.length c,.slice A' up.length c',.slice L labs.length cl,.slice none 0 0] 203)=w2:=⟨_,rfl⟩;have hg0:w1.heap.size<w2.heap.size:=by rw[←hw2];simp
  have hb12:Below w1.heap.size w1 w2:=by rw[←hw2];exact(Below.refl _ w1).alloc (Nat.le_refl _) _
  have hpj:PJ w1.heap.size (.slice A names.length c) (.slice A' up.length c') (.slice L labs.length cl) (.slice none 0 0) [] w2:=by
   rw[←hw2];exact⟨Blk.new _ _ _,World.ownsRow_nil _ _ _ _⟩
  have hat:JAt w1 w1.heap.size (.slice A names.length c) (.slice A' up.length c') (.slice L labs.length cl) up rule labs 0 [] (.slice none 0 0) w2 :=
   ⟨hpj,hb12,rfl,rfl,fun x hx=>(nomatch hx),Nat.le_refl _⟩
  have HAT:=η hat
  rw[hw2];clear hpj hat hw2 hb12 hc0 hc1;have hs1:=HB1.out.size;go_loopw [28] (fun i wr=>∃(k:Nat) (q:List Jg.Th) (rv:Value),k≤rule.length∧i=.int .i64 k∧Hid (JAt w1 w1.heap.size (.slice A names.length c) (.slice A' up.length c') (.slice L labs.length cl) up rule labs k q rv wr)) (fun i _=>rule.length-(intOf i).toNat);case atStart=>exact⟨0,[],_,Nat.zero_le _,rfl,HAT⟩
  case round =>
   obtain⟨k,q,rv,hk,rfl,HK⟩:=hrel;have hbw:Below w.heap.size w wr:=HB1.out.trans (HK.out.below.mono hs1);have HBW:=η hbw;by_cases hlt:k<rule.length
   ·obtain⟨ad,hA,hb,c0⟩:=q0y (HR.out.below hbw) hlt;obtain⟨p',hp'⟩:∃ p',Rl.step (Jg.sorts q) rule[k]=some p':=by
     cases hs:Rl.step (Jg.sorts q) rule[k] with
     | some p'=>exact⟨p',rfl⟩
     | none =>
      have:=HK.out.go.trans (q6a hlt hs);rw[HPO.out] at this;cases this
    have hkd:=Jg.kind_of q hp';have hlab:Labs wr w1.heap.size L up labs:=⟨(HL.out.below hbw).more hs1,(of_decide_eq_true HZ3.out).1,(of_decide_eq_true HZ3.out).2⟩;have htk:=z6o (labs:=labs) cl rule[k] hkd wr HK.out.pj ((H.out.below hbw).more hs1) HZ1.out hlab HK.out.good (by have:=HK.out.len;omega);have hnx:∀ rv' w',PJ w1.heap.size (.slice A names.length c) (.slice A' up.length c') (.slice L labs.length cl) rv' (Jg.step (jops up labs) q rule[k]) w'→Below w1.heap.size wr w'→JAt w1 w1.heap.size (.slice A names.length c) (.slice A' up.length c') (.slice L labs.length cl) up rule labs (k+1) (Jg.step (jops up labs) q rule[k]) rv' w':=fun rv' w' h1 h2=>by
     refine⟨h1,HK.out.below.trans h2,?_,HK.out.mach.trans (j08 _ hlt),Jg.step_good (z3t HZ1.out HZ3.out) hkd HK.out.good,by have:=Jg.step_length (o:=jops up labs) hkd;have:=HK.out.len;omega⟩;rw[Jg.step_sorts hkd];exact HK.out.go.trans (q8y hlt hp')
    have HTK:=η htk;have HNX:=η hnx;clear htk hnx hkd hp' hlab hbw;rw[hA];clear hA;generalize Jg.step (jops up labs) q rule[k]=q' at *;generalize rule[k]=x at *;go_wp2_with (fail);refine HTK.out.mono ?_;rintro e w3 ⟨⟨u,rfl⟩,⟨rv',hp3⟩,hb3⟩;have HQ:=η (HNX.out rv' w3 hp3 hb3);clear hp3 hb3;go_wp2;go_roundw;case rel=>exact⟨k+1,q',rv',by omega,by go_num,HQ⟩
    case measure=>simp[intOf];omega
   ·obtain rfl:k=rule.length:=by omega
    have hgo:=HK.out.go;have hma:=HK.out.mach;rw[List.drop_length] at hgo hma;rw[HPO.out] at hgo;have hgo:some [sort]=some (Jg.sorts q):=hgo;have hma:Jg.mach (jops up labs) [] rule=q:=hma;injection hgo with hgo;obtain⟨x,rfl⟩:∃ x,q=[x]:=by
     match q,hgo with
     | [x],_=>exact⟨x,rfl⟩
    have hval:Jg.val (jops up labs) rule=x:=by unfold Jg.val;rw[hma];rfl
    have hown:=HK.out.pj.own;obtain⟨gr,cap,rfl,-⟩:=q1y hown (by simp);have c0:=q1g hown (j:=0) (u:=jv x) rfl;have hblk:=HK.out.pj.blk;have c3:wr.cell? ⟨w1.heap.size,3,none⟩=some (.slice (some ⟨gr,0,none⟩) 1 cap):=by rw[hblk.cell];rfl
    have HV:=η hval;clear hval hgo hma hown hblk hbw;obtain⟨ty,y,hy⟩:=q45 x;rw[hy] at c0;have HY:=η hy;clear hy;go_wp2;go_returns;refine⟨?_,HBW.out⟩;show Ending.returned (.tuple #[.iface ty y,.int .i64 0])=_;rw[←HRES.out,HV.out,HY.out];rfl
 ·have hz1:((n:Int)==0)=false:=by rw[beq_eq_false_iff_ne];omega
  have hz2:((n:Int) != 0)=true:=by rw[bne_iff_ne];omega
  rw[if_neg hz];go_enter Tryz.func130,Tryz.ntmps130;go_wp2_with (fail);refine HCH.out.mono ?_;rintro e w1 ⟨rfl,hb1⟩;have HB1:=η (HB0.out.trans (hb1.mono (by simp)));clear hb1;go_wp2;go_ret2;exact⟨rfl,HB1.out⟩
def condV(up:List Nat)(rule labs:List Int)(n:Nat):Bool:=if n=0 then Jg.Is (Jg.val (jops up labs) rule) else false
def labelV(up:List Nat)(rule labs:List Int)(n:Nat):Nat:=if n=0 then Jg.A (Jg.val (jops up labs) rule) else 0
theorem z8c{v:Value}{names:List ByteArray}{up:List Nat}{R L:Option Addr}{rule labs:List Int}(cr cl:Nat)(w:World)(h:IsLat w w.heap.size v names up)(hr:Row w w.heap.size R (ints rule))(hrl:rule.length≤1000000)(hl:Row w w.heap.size L (ints labs))(hll:labs.length≤1000000) :
  Calls Tryz.prog 86 #[v,.slice R rule.length cr,.slice L labs.length cl] w fun e w'=>e=.returned (.tuple #[.bool (condV up rule labs (jWhy names up rule labs false)),.int .i64 (jWhy names up rule labs false:Nat)])∧Below w.heap.size w w':=by
 have h':=h;obtain⟨⟨A,A',c,c',rfl,-,-⟩,-,-,-⟩:=h';have hb0:Below w.heap.size w (w.alloc (.cells #[.slice A names.length c,.slice A' up.length c'] 25)):=(Below.refl _ w).alloc (Nat.le_refl _) _;have hch:=q74 (labs:=labs) cr cl false _ (h.boxed (.cells #[.slice A names.length c,.slice A' up.length c'] 25)) ((hr.below hb0).more hb0.size) hrl ((hl.below hb0).more hb0.size) hll;unfold Judged at hch;generalize jWhy names up rule labs false=n at hch ⊢;have hcv:condV up rule labs n=(if n=0 then Jg.Is (Jg.val (jops up labs) rule) else false):=rfl;generalize condV up rule labs n=res at hcv ⊢;generalize Jg.val (jops up labs) rule=x at hch hcv;have HB0:=η hb0;clear hb0 h hr hl;by_cases hz:n=0
 ·subst hz;rw[if_pos rfl] at hch hcv;cases x with
  | c b =>
   have hap:=q8k b;have HCV:=η hcv;have HCH:Hid (Calls Tryz.prog 130 #[.agg #[.slice A names.length c,.slice A' up.length c'],.slice R rule.length cr,.slice L labs.length cl,.bool false] (w.alloc (.cells #[.slice A names.length c,.slice A' up.length c'] 25)) fun e w'=>e=.returned (.tuple #[.iface 176 (.bool b),.int .i64 ((0:Nat):Int)])∧Below (w.alloc (.cells #[.slice A names.length c,.slice A' up.length c'] 25)).heap.size (w.alloc (.cells #[.slice A names.length c,.slice A' up.length c'] 25)) w'):=η hch;clear hch hcv;go_enter Tryz.func86,Tryz.ntmps86;go_wp2_with (fail);refine HCH.out.mono ?_;rintro e w1 ⟨rfl,hb1⟩;have HB1:=η (HB0.out.trans (hb1.mono (by simp)));clear hb1;go_wp2_with (fail);refine(hap _).mono ?_;rintro e w2 ⟨rfl,rfl⟩;go_wp2;go_ret2;exact⟨q6d HCV.out.symm rfl,HB1.out⟩
  | l b =>
   have hap:=q8l b;have HCV:=η hcv;have HCH:Hid (Calls Tryz.prog 130 #[.agg #[.slice A names.length c,.slice A' up.length c'],.slice R rule.length cr,.slice L labs.length cl,.bool false] (w.alloc (.cells #[.slice A names.length c,.slice A' up.length c'] 25)) fun e w'=>e=.returned (.tuple #[.iface 177 (.int .i64 (b:Int)),.int .i64 ((0:Nat):Int)])∧Below (w.alloc (.cells #[.slice A names.length c,.slice A' up.length c'] 25)).heap.size (w.alloc (.cells #[.slice A names.length c,.slice A' up.length c'] 25)) w'):=η hch;clear hch hcv;go_enter Tryz.func86,Tryz.ntmps86;go_wp2_with (fail);refine HCH.out.mono ?_;rintro e w1 ⟨rfl,hb1⟩;have HB1:=η (HB0.out.trans (hb1.mono (by simp)));clear hb1;go_wp2_with (fail);refine(hap _).mono ?_;rintro e w2 ⟨rfl,rfl⟩;go_wp2;go_ret2;exact⟨q6d HCV.out.symm rfl,HB1.out⟩
 ·rw[if_neg hz] at hch hcv;have hap:=q87;have HCV:=η hcv;have HCH:=η hch;clear hch hcv;go_enter Tryz.func86,Tryz.ntmps86;go_wp2_with (fail);refine HCH.out.mono ?_;rintro e w1 ⟨rfl,hb1⟩;have HB1:=η (HB0.out.trans (hb1.mono (by simp)));clear hb1;go_wp2_with (fail);refine(hap _).mono ?_;rintro e w2 ⟨rfl,rfl⟩;go_wp2;go_ret2;exact⟨q6d HCV.out.symm rfl,HB1.out⟩
theorem z6s{v:Value}{names:List ByteArray}{up:List Nat}{R L:Option Addr}{rule labs:List Int}(cr cl:Nat)(w:World)(h:IsLat w w.heap.size v names up)(hr:Row w w.heap.size R (ints rule))(hrl:rule.length≤1000000)(hl:Row w w.heap.size L (ints labs))(hll:labs.length≤1000000) :
  Calls Tryz.prog 87 #[v,.slice R rule.length cr,.slice L labs.length cl] w fun e w'=>e=.returned (.tuple #[.int .i64 (labelV up rule labs (jWhy names up rule labs true):Nat),.int .i64 (jWhy names up rule labs true:Nat)])∧Below w.heap.size w w':=by
 have h':=h;obtain⟨⟨A,A',c,c',rfl,-,-⟩,-,-,-⟩:=h';have hb0:Below w.heap.size w (w.alloc (.cells #[.slice A names.length c,.slice A' up.length c'] 25)):=(Below.refl _ w).alloc (Nat.le_refl _) _;have hch:=q74 (labs:=labs) cr cl true _ (h.boxed (.cells #[.slice A names.length c,.slice A' up.length c'] 25)) ((hr.below hb0).more hb0.size) hrl ((hl.below hb0).more hb0.size) hll;unfold Judged at hch;generalize jWhy names up rule labs true=n at hch ⊢;have hcv:labelV up rule labs n=(if n=0 then Jg.A (Jg.val (jops up labs) rule) else 0):=rfl;generalize labelV up rule labs n=res at hcv ⊢;generalize Jg.val (jops up labs) rule=x at hch hcv;have HB0:=η hb0;clear hb0 h hr hl;by_cases hz:n=0
 ·subst hz;rw[if_pos rfl] at hch hcv;cases x with
  | c b =>
   have hap:=q8k b;have HCV:=η hcv;have HCH:Hid (Calls Tryz.prog 130 #[.agg #[.slice A names.length c,.slice A' up.length c'],.slice R rule.length cr,.slice L labs.length cl,.bool true] (w.alloc (.cells #[.slice A names.length c,.slice A' up.length c'] 25)) fun e w'=>e=.returned (.tuple #[.iface 176 (.bool b),.int .i64 ((0:Nat):Int)])∧Below (w.alloc (.cells #[.slice A names.length c,.slice A' up.length c'] 25)).heap.size (w.alloc (.cells #[.slice A names.length c,.slice A' up.length c'] 25)) w'):=η hch;clear hch hcv;go_enter Tryz.func87,Tryz.ntmps87;go_wp2_with (fail);refine HCH.out.mono ?_;rintro e w1 ⟨rfl,hb1⟩;have HB1:=η (HB0.out.trans (hb1.mono (by simp)));clear hb1;go_wp2_with (fail);refine(hap _).mono ?_;rintro e w2 ⟨rfl,rfl⟩;go_wp2;go_ret2;exact⟨q2d (by rw[HCV.out];rfl) rfl,HB1.out⟩
  | l b =>
   have hap:=q8l b;have HCV:=η hcv;have HCH:Hid (Calls Tryz.prog 130 #[.agg #[.slice A names.length c,.slice A' up.length c'],.slice R rule.length cr,.slice L labs.length cl,.bool true] (w.alloc (.cells #[.slice A names.length c,.slice A' up.length c'] 25)) fun e w'=>e=.returned (.tuple #[.iface 177 (.int .i64 (b:Int)),.int .i64 ((0:Nat):Int)])∧Below (w.alloc (.cells #[.slice A names.length c,.slice A' up.length c'] 25)).heap.size (w.alloc (.cells #[.slice A names.length c,.slice A' up.length c'] 25)) w'):=η hch;clear hch hcv;go_enter Tryz.func87,Tryz.ntmps87;go_wp2_with (fail);refine HCH.out.mono ?_;rintro e w1 ⟨rfl,hb1⟩;have HB1:=η (HB0.out.trans (hb1.mono (by simp)));clear hb1;go_wp2_with (fail);refine(hap _).mono ?_;rintro e w2 ⟨rfl,rfl⟩;go_wp2;go_ret2;exact⟨q2d (by rw[HCV.out];rfl) rfl,HB1.out⟩
 ·rw[if_neg hz] at hch hcv;have hap:=q87;have HCV:=η hcv;have HCH:=η hch;clear hch hcv;go_enter Tryz.func87,Tryz.ntmps87;go_wp2_with (fail);refine HCH.out.mono ?_;rintro e w1 ⟨rfl,hb1⟩;have HB1:=η (HB0.out.trans (hb1.mono (by simp)));clear hb1;go_wp2_with (fail);refine(hap _).mono ?_;rintro e w2 ⟨rfl,rfl⟩;go_wp2;go_ret2;exact⟨q2d (by rw[HCV.out];rfl) rfl,HB1.out⟩
def GaveV(w:World)(x:Jg.Th)(from_:Nat)(e:Ending)(w':World):Prop:=e=.returned (.agg #[.bool (Jg.Is x),.int .i64 (Jg.A x:Nat),.int .i64 (from_:Nat)])∧Below w.heap.size w w'
theorem q95{names:List ByteArray}{up:List Nat}(hz:checkN names up=0)(labs:List Int){w:World}{v:Value}(h:IsLat w w.heap.size v names up):Calls Tryz.prog 68 #[v] w fun e w'=>e=.returned (.int .i64 ((jops up labs).bot:Nat))∧Below w.heap.size w w':=by
 have hL:=q2s hz;have:=z2v w h hL.one (fun a b ha hb=>hL.meet ha hb);rw[←hL.bottom] at this;exact this
theorem j0d{names:List ByteArray}{up:List Nat}(hz:checkN names up=0)(labs:List Int){w:World}{v:Value}(h:IsLat w w.heap.size v names up):Calls Tryz.prog 97 #[v] w fun e w'=>e=.returned (.int .i64 ((jops up labs).top:Nat))∧Below w.heap.size w w':=by
 have hL:=q2s hz;have:=z9r w h hL.one (fun a b ha hb=>hL.join ha hb);rw[←hL.top] at this;exact this
theorem j04{w:World}{B:Nat}{L:Option Addr}{up:List Nat}{labs:List Int}(hlab:Labs w B L up labs):∃ ad,L=some ad∧ad.block<B∧w.cell? ad=some (.int .i64 ((jops up labs).lab 0:Nat))∧w.cell? ⟨ad.block,ad.off+1,none⟩=some (.int .i64 ((jops up labs).lab 1:Nat))∧w.cell? ⟨ad.block,ad.off+2,none⟩=some (.int .i64 ((jops up labs).lab 2:Nat))∧w.cell? ⟨ad.block,ad.off+3,none⟩=some (.int .i64 ((jops up labs).lab 3:Nat)):=by
 have h4:=hlab.four;obtain⟨ad,hL,hlb,d0⟩:=q0y hlab.row (k:=0) (by omega);obtain⟨_,hL1,_,d1⟩:=q0y hlab.row (k:=1) (by omega);obtain⟨_,hL2,_,d2⟩:=q0y hlab.row (k:=2) (by omega);obtain⟨_,hL3,_,d3⟩:=q0y hlab.row (k:=3) (by omega);subst hL;injection hL1 with hL1;injection hL2 with hL2;injection hL3 with hL3;subst hL1 hL2 hL3;have hk:∀(k:Nat) (hk:k<4),labs[k]=((jops up labs).lab k:Int):=fun k hk=>by
  have:=(hlab.ok _ (List.getElem_mem (show k<labs.length by omega))).1;show _=(((labs.getD k 0).toNat:Nat):Int);rw[List.getD_eq_getElem?_getD,List.getElem?_eq_getElem (by omega)];simp only[Option.getD_some];omega
 rw[hk 0 (by omega)] at d0;rw[hk 1 (by omega)] at d1;rw[hk 2 (by omega)] at d2;rw[hk 3 (by omega)] at d3;exact⟨ad,rfl,hlb,d0,d1,d2,d3⟩
theorem z26{v:Value}{names:List ByteArray}{up:List Nat}{R L:Option Addr}{rule labs:List Int}(cr cl:Nat)(n:Int)(i:Nat)(hn:n=1∨n=2∨n=6∨n=7∨n=8∨n=9∨n=10∨n=11)(hi:rule[i]? = some n)(_:rule.length≤1000000)(w:World)(h:IsLat w w.heap.size v names up)(hz:checkN names up=0)(hr:Row w w.heap.size R (ints rule))(hlab:Labs w w.heap.size L up labs) :
  Calls Tryz.prog 72 #[v,.slice R rule.length cr,.slice L labs.length cl,.int .i64 (i:Int)] w (GaveV w (Jg.one (jops up labs) n) i):=by
 have h':=h;obtain⟨⟨A,A',c,c',rfl,hN,hU⟩,-,-,-⟩:=h';have hlt:i<rule.length:=(List.getElem?_eq_some_iff.1 hi).1;have hn':rule[i]=n:=by rw[List.getElem?_eq_getElem hlt] at hi;injection hi
 have h4:=hlab.four;have hb0:Below w.heap.size w ((w.alloc (.cells #[.slice A names.length c,.slice A' up.length c'] 25)).alloc (.cells #[.bool false,.int .i64 0,.int .i64 0] 83)):=((Below.refl _ w).alloc (Nat.le_refl _) _).alloc (by simp) _;obtain⟨ra,hR,hrb,r0⟩:=q0y (hr.below hb0) hlt;rw[hn'] at r0;have p0:Blk ((w.alloc (.cells #[.slice A names.length c,.slice A' up.length c'] 25)).alloc (.cells #[.bool false,.int .i64 0,.int .i64 0] 83)) (w.heap.size+1) 83 #[.bool false,.int .i64 0,.int .i64 0]:=by
  have:=Blk.new (w.alloc (.cells #[.slice A names.length c,.slice A' up.length c'] 25)) 83 #[.bool false,.int .i64 0,.int .i64 0]
  simpa using this
 have hl2:=(h.below hb0).more hb0.size;have hbo:=q95 hz labs hl2;have hto:=j0d hz labs hl2;obtain⟨ad,rfl,hlb,d0,d1,d2,d3⟩:=j04 (hlab.below hb0);subst hR;have HB0:=η hb0;have HP0:=η p0;have HBO:=η hbo;have HTO:=η hto;clear hb0 p0 hbo hto h hz hr hlab hl2 hN hU hi hn';rw[h4];unfold GaveV;rcases hn with rfl|rfl|rfl|rfl|rfl|rfl|rfl|rfl
 ·go_enter Tryz.func72,Tryz.ntmps72;go_wp2;go_returns;exact⟨rfl,by go_grown⟩
 ·go_enter Tryz.func72,Tryz.ntmps72;go_wp2;go_returns;exact⟨rfl,by go_grown⟩
 ·go_enter Tryz.func72,Tryz.ntmps72;go_wp2_with (fail);refine HBO.out.mono ?_;rintro e w1 ⟨rfl,hb1⟩;have hp1:=HP0.out.below hb1 HP0.out.lt;have f0:=hp1.frozen 0;have f1:=hp1.frozen 1;have f2:=hp1.frozen 2;have c0:=hp1.cell 0;have c1:=hp1.cell 1;have c2:=hp1.cell 2;have HB1:=η (HB0.out.trans (hb1.mono (by simp;omega)));clear hb1;go_wp2;obtain⟨W,hW⟩:∃ W,((w1.setCell ⟨w.heap.size+1,0,none⟩ (.bool false)).setCell ⟨w.heap.size+1,1,none⟩ (.int .i64 ((jops up labs).bot:Nat))).setCell ⟨w.heap.size+1,2,none⟩ (.int .i64 (i:Int))=W:=⟨_,rfl⟩;have hbW:Below w.heap.size w W:=hW▸((HB1.out.setCell (p:=⟨w.heap.size+1,0,none⟩) (by simp) _).setCell (p:=⟨w.heap.size+1,1,none⟩) (by simp) _).setCell (p:=⟨w.heap.size+1,2,none⟩) (by simp) _;have hpW:Blk W (w.heap.size+1) 83 #[.bool false,.int .i64 ((jops up labs).bot:Nat),.int .i64 (i:Int)]:=hW▸((hp1.set_ 0 _).set_ 1 _).set_ 2 _;rw[hW];clear hW c0 c1 c2;have c0:=hpW.cell 0;have c1:=hpW.cell 1;have c2:=hpW.cell 2;exact bodyPost_ret (v:=.agg #[.bool false,.int .i64 ((jops up labs).bot:Nat),.int .i64 (i:Int)]) (by simp[results,Tryz.results72,go_sem,c0,c1,c2]) rfl ⟨rfl,hbW⟩
 ·go_enter Tryz.func72,Tryz.ntmps72;go_wp2_with (fail);refine HTO.out.mono ?_;rintro e w1 ⟨rfl,hb1⟩;have hp1:=HP0.out.below hb1 HP0.out.lt;have f0:=hp1.frozen 0;have f1:=hp1.frozen 1;have f2:=hp1.frozen 2;have c0:=hp1.cell 0;have c1:=hp1.cell 1;have c2:=hp1.cell 2;have HB1:=η (HB0.out.trans (hb1.mono (by simp;omega)));clear hb1;go_wp2;obtain⟨W,hW⟩:∃ W,((w1.setCell ⟨w.heap.size+1,0,none⟩ (.bool false)).setCell ⟨w.heap.size+1,1,none⟩ (.int .i64 ((jops up labs).top:Nat))).setCell ⟨w.heap.size+1,2,none⟩ (.int .i64 (i:Int))=W:=⟨_,rfl⟩;have hbW:Below w.heap.size w W:=hW▸((HB1.out.setCell (p:=⟨w.heap.size+1,0,none⟩) (by simp) _).setCell (p:=⟨w.heap.size+1,1,none⟩) (by simp) _).setCell (p:=⟨w.heap.size+1,2,none⟩) (by simp) _;have hpW:Blk W (w.heap.size+1) 83 #[.bool false,.int .i64 ((jops up labs).top:Nat),.int .i64 (i:Int)]:=hW▸((hp1.set_ 0 _).set_ 1 _).set_ 2 _;rw[hW];clear hW c0 c1 c2;have c0:=hpW.cell 0;have c1:=hpW.cell 1;have c2:=hpW.cell 2;exact bodyPost_ret (v:=.agg #[.bool false,.int .i64 ((jops up labs).top:Nat),.int .i64 (i:Int)]) (by simp[results,Tryz.results72,go_sem,c0,c1,c2]) rfl ⟨rfl,hbW⟩
 all_goals
  go_enter Tryz.func72,Tryz.ntmps72;go_wp2;go_returns;exact⟨rfl,by go_grown⟩
end Go.Proofs.YtjobifclmcdjcaaGreatDoor
