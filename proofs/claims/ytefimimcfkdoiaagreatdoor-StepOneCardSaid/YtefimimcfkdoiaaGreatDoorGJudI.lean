import Derived.Deep.Cut
import Derived.Test.YtefimimcfkdoiaaGreatDoorGJudB
set_option maxHeartbeats 64000000
set_option maxRecDepth 100000
namespace Go.Proofs.YtefimimcfkdoiaaGreatDoor
open Go.RowKit Go.Shelf
theorem rThing_3 {v:Value} {names:List ByteArray} {up:List Nat} {R L:Option Addr} {rule labs:List Int} (cr cl:Nat) (a b:Bool) (i fx fy:Nat) (hi:rule[i]? = some 3) (hil:rule.length≤1000000) (h1:1≤i) (hfy:1≤fy∧fy≤i) (w:World) (h:IsLat w w.heap.size v names up) (_:checkN names up=0) (hr:Row w w.heap.size R (ints rule))
  (hy:∀ W,Below w.heap.size w W→Calls Tryz.prog 59 #[v,.slice R rule.length cr,.slice L labs.length cl,.int .i64 ((i:Int) - 1)] W (GaveV W (.c b) fy))
  (hx:∀ W,Below w.heap.size w W→Calls Tryz.prog 59 #[v,.slice R rule.length cr,.slice L labs.length cl,.int .i64 ((fy:Int) - 1)] W (GaveV W (.c a) fx)) :
  Calls Tryz.prog 59 #[v,.slice R rule.length cr,.slice L labs.length cl,.int .i64 (i:Int)] w (GaveV w (Jg.two (jops up labs) 3 (.c a) (.c b)) fx):=by
 have hlt:i < rule.length:=(List.getElem?_eq_some_iff.1 hi).1
 have hn':rule[i]=3:=by rw [List.getElem?_eq_getElem hlt] at hi; injection hi
 have hlat:=h
 obtain ⟨⟨A,A',c,c',rfl,hN,hU⟩,-,-,-⟩:=h
 have hb0:Below w.heap.size w ((w.alloc (.cells #[.slice A names.length c,.slice A' up.length c'] 25)).alloc (.cells #[.bool false,.int .i64 0,.int .i64 0] 73)):=((Below.refl _ w).alloc (Nat.le_refl _) _).alloc (by simp) _
 obtain ⟨ra,hR,hrb,r0⟩:=irow_at (hr.below hb0) hlt
 rw [hn'] at r0
 have p0:Blk ((w.alloc (.cells #[.slice A names.length c,.slice A' up.length c'] 25)).alloc (.cells #[.bool false,.int .i64 0,.int .i64 0] 73)) (w.heap.size+1) 73 #[.bool false,.int .i64 0,.int .i64 0]:=by
  have:=Blk.new (w.alloc (.cells #[.slice A names.length c,.slice A' up.length c'] 25)) 73 #[.bool false,.int .i64 0,.int .i64 0]
  simpa using this
 have q0:Blk ((w.alloc (.cells #[.slice A names.length c,.slice A' up.length c'] 25)).alloc (.cells #[.bool false,.int .i64 0,.int .i64 0] 73)) w.heap.size 25 #[.slice A names.length c,.slice A' up.length c']:=(Blk.new w 25 #[.slice A names.length c,.slice A' up.length c']).alloc _
 subst hR
 have HL:=η hlat
 have HB0:=η hb0
 have HP0:=η p0
 have HQ0:=η q0
 have HY:=η (hy _ hb0)
 have HX:=η hx
 have hres:Jg.two (jops up labs) 3 (.c a) (.c b)=.c (a && b):=rfl
 rw [hres]
 clear hres
 have hfy1:=hfy.1
 have hfy2:=hfy.2
 clear hb0 p0 q0 hlat hr hN hU hi hn' hy hx hfy
 unfold GaveV at HY HX ⊢
 dsimp only [Jg.Is,Jg.A] at HY HX ⊢
 have hva:a=true∨a=false:=by cases a <;> simp
 go_enter Tryz.func59,Tryz.ntmps59
 go_wp2_with (fail)
 refine HY.out.mono ?_
 rintro e w1 ⟨rfl,hb1⟩
 have HB1:=η (HB0.out.trans (hb1.mono (by simp; omega)))
 have HP1:=η (HP0.out.below hb1 HP0.out.lt)
 have HQ1:=η (HQ0.out.below hb1 HQ0.out.lt)
 have hs1:=HB1.out.size
 have HX1:=η (HX.out (w1.alloc (.cells #[.bool b,.int .i64 0,.int .i64 (fy:Int)] 73)) (HB1.out.alloc hs1 _))
 have c0:=HQ1.out.cell 0
 have c1:=HQ1.out.cell 1
 have hq1:=HQ1.out.lt
 have hp1:=HP1.out.lt
 clear hb1 HY HX
 go_wp2_with (fail)
 refine HX1.out.mono ?_
 rintro e w2 ⟨rfl,hb2⟩
 have HB2:=η ((HB1.out.alloc hs1 (.cells #[.bool b,.int .i64 0,.int .i64 (fy:Int)] 73)).trans (hb2.mono (by simp; omega)))
 have HP2:=η ((HP1.out.alloc _).below hb2 (by simp; omega))
 have HQ2:=η ((HQ1.out.alloc _).below hb2 (by simp; omega))
 have hy2:Blk w2 w1.heap.size 73 #[.bool b,.int .i64 0,.int .i64 (fy:Int)]:=(Blk.new w1 73 #[.bool b,.int .i64 0,.int .i64 (fy:Int)]).below hb2 (by simp)
 have hs2:w1.heap.size < w2.heap.size:=hy2.lt
 have hq2:w.heap.size < w2.heap.size:=HQ2.out.lt
 have d0:=HQ2.out.cell 0
 have d1:=HQ2.out.cell 1
 have y0:=hy2.cell 0
 have y1:=hy2.cell 1
 have pf0:=HP2.out.frozen 0
 have pf1:=HP2.out.frozen 1
 have pf2:=HP2.out.frozen 2
 have z0:=HP2.out.cell 0
 have z1:=HP2.out.cell 1
 have z2:=HP2.out.cell 2
 clear hb2 HX1 c0 c1 hy2
 have HB3:=η (HB2.out.alloc HB2.out.size (.cells #[.bool a,.int .i64 0,.int .i64 (fx:Int)] 73))
 have hne:w.heap.size+1 < w2.heap.size:=HP2.out.lt
 rcases hva with rfl | rfl
 ·go_upto_region 24 with (fail)
  obtain ⟨W,hW⟩:∃ W,(w2.alloc (.cells #[.bool true,.int .i64 0,.int .i64 (fx:Int)] 73)).alloc (.cells #[.bool b,.int .i64 0,.int .i64 (fx:Int)] 73)=W:=⟨_,rfl⟩
  have hbW:Below w.heap.size w W:=hW ▸ HB3.out.alloc (by have:=HB2.out.size; simp; omega) _
  have hpW:Blk W (w.heap.size+1) 73 #[.bool false,.int .i64 0,.int .i64 0]:=hW ▸ (HP2.out.alloc _).alloc _
  have hoW:Blk W (w2.heap.size+1) 73 #[.bool b,.int .i64 0,.int .i64 (fx:Int)]:=by
   rw [← hW]
   have:=Blk.new (w2.alloc (.cells #[.bool true,.int .i64 0,.int .i64 (fx:Int)] 73)) 73 #[.bool b,.int .i64 0,.int .i64 (fx:Int)]
   simpa using this
  clear z0 z1 z2 pf0 pf1 pf2 d0 d1 y0 y1
  rw [hW]
  clear hW
  have hf0:=hpW.frozen 0
  have hf1:=hpW.frozen 1
  have hf2:=hpW.frozen 2
  have hz0:=hpW.cell 0
  have hz1:=hpW.cell 1
  have hz2:=hpW.cell 2
  have ho0:=hoW.cell 0
  have ho1:=hoW.cell 1
  have ho2:=hoW.cell 2
  have hltW:=hoW.lt
  have HPW:=η hpW
  have HBW:=η hbW
  clear hpW hoW hbW
  go_wp2
  obtain ⟨W5,hW5⟩:∃ W5,((W.setCell ⟨w.heap.size+1,0,none⟩ (.bool b)).setCell ⟨w.heap.size+1,1,none⟩ (.int .i64 0)).setCell ⟨w.heap.size+1,2,none⟩ (.int .i64 (fx:Int))=W5:=⟨_,rfl⟩
  have hb5:Below w.heap.size w W5:=hW5 ▸ ((HBW.out.setCell (p:=⟨w.heap.size+1,0,none⟩) (by simp) _).setCell (p:=⟨w.heap.size+1,1,none⟩) (by simp) _).setCell (p:=⟨w.heap.size+1,2,none⟩) (by simp) _
  have hp5:Blk W5 (w.heap.size+1) 73 #[.bool b,.int .i64 0,.int .i64 (fx:Int)]:=hW5 ▸ ((HPW.out.set_ 0 _).set_ 1 _).set_ 2 _
  rw [hW5]
  clear hW5 hz0 hz1 hz2 ho0 ho1 ho2 HPW HBW
  have c0:=hp5.cell 0
  have c1:=hp5.cell 1
  have c2:=hp5.cell 2
  exact bodyPost_ret (v:=.agg #[.bool b,.int .i64 0,.int .i64 (fx:Int)]) (by simp [results,Tryz.results59,go_sem,c0,c1,c2]) rfl ⟨rfl,hb5⟩
 ·go_upto_region 24 with (fail)
  obtain ⟨W,hW⟩:∃ W,(w2.alloc (.cells #[.bool false,.int .i64 0,.int .i64 (fx:Int)] 73)).alloc (.cells #[.bool false,.int .i64 0,.int .i64 (fx:Int)] 73)=W:=⟨_,rfl⟩
  have hbW:Below w.heap.size w W:=hW ▸ HB3.out.alloc (by have:=HB2.out.size; simp; omega) _
  have hpW:Blk W (w.heap.size+1) 73 #[.bool false,.int .i64 0,.int .i64 0]:=hW ▸ (HP2.out.alloc _).alloc _
  have hoW:Blk W (w2.heap.size+1) 73 #[.bool false,.int .i64 0,.int .i64 (fx:Int)]:=by
   rw [← hW]
   have:=Blk.new (w2.alloc (.cells #[.bool false,.int .i64 0,.int .i64 (fx:Int)] 73)) 73 #[.bool false,.int .i64 0,.int .i64 (fx:Int)]
   simpa using this
  clear z0 z1 z2 pf0 pf1 pf2 d0 d1 y0 y1
  rw [hW]
  clear hW
  have hf0:=hpW.frozen 0
  have hf1:=hpW.frozen 1
  have hf2:=hpW.frozen 2
  have hz0:=hpW.cell 0
  have hz1:=hpW.cell 1
  have hz2:=hpW.cell 2
  have ho0:=hoW.cell 0
  have ho1:=hoW.cell 1
  have ho2:=hoW.cell 2
  have hltW:=hoW.lt
  have HPW:=η hpW
  have HBW:=η hbW
  clear hpW hoW hbW
  go_wp2
  obtain ⟨W5,hW5⟩:∃ W5,((W.setCell ⟨w.heap.size+1,0,none⟩ (.bool false)).setCell ⟨w.heap.size+1,1,none⟩ (.int .i64 0)).setCell ⟨w.heap.size+1,2,none⟩ (.int .i64 (fx:Int))=W5:=⟨_,rfl⟩
  have hb5:Below w.heap.size w W5:=hW5 ▸ ((HBW.out.setCell (p:=⟨w.heap.size+1,0,none⟩) (by simp) _).setCell (p:=⟨w.heap.size+1,1,none⟩) (by simp) _).setCell (p:=⟨w.heap.size+1,2,none⟩) (by simp) _
  have hp5:Blk W5 (w.heap.size+1) 73 #[.bool false,.int .i64 0,.int .i64 (fx:Int)]:=hW5 ▸ ((HPW.out.set_ 0 _).set_ 1 _).set_ 2 _
  rw [hW5]
  clear hW5 hz0 hz1 hz2 ho0 ho1 ho2 HPW HBW
  have c0:=hp5.cell 0
  have c1:=hp5.cell 1
  have c2:=hp5.cell 2
  exact bodyPost_ret (v:=.agg #[.bool false,.int .i64 0,.int .i64 (fx:Int)]) (by simp [results,Tryz.results59,go_sem,c0,c1,c2]) rfl ⟨rfl,hb5⟩
theorem rThing_4 {v:Value} {names:List ByteArray} {up:List Nat} {R L:Option Addr} {rule labs:List Int} (cr cl:Nat) (a b:Bool) (i fx fy:Nat) (hi:rule[i]? = some 4) (hil:rule.length≤1000000) (h1:1≤i) (hfy:1≤fy∧fy≤i) (w:World) (h:IsLat w w.heap.size v names up) (_:checkN names up=0) (hr:Row w w.heap.size R (ints rule))
  (hy:∀ W,Below w.heap.size w W→Calls Tryz.prog 59 #[v,.slice R rule.length cr,.slice L labs.length cl,.int .i64 ((i:Int) - 1)] W (GaveV W (.c b) fy))
  (hx:∀ W,Below w.heap.size w W→Calls Tryz.prog 59 #[v,.slice R rule.length cr,.slice L labs.length cl,.int .i64 ((fy:Int) - 1)] W (GaveV W (.c a) fx)) :
  Calls Tryz.prog 59 #[v,.slice R rule.length cr,.slice L labs.length cl,.int .i64 (i:Int)] w (GaveV w (Jg.two (jops up labs) 4 (.c a) (.c b)) fx):=by
 have hlt:i < rule.length:=(List.getElem?_eq_some_iff.1 hi).1
 have hn':rule[i]=4:=by rw [List.getElem?_eq_getElem hlt] at hi; injection hi
 have hlat:=h
 obtain ⟨⟨A,A',c,c',rfl,hN,hU⟩,-,-,-⟩:=h
 have hb0:Below w.heap.size w ((w.alloc (.cells #[.slice A names.length c,.slice A' up.length c'] 25)).alloc (.cells #[.bool false,.int .i64 0,.int .i64 0] 73)):=((Below.refl _ w).alloc (Nat.le_refl _) _).alloc (by simp) _
 obtain ⟨ra,hR,hrb,r0⟩:=irow_at (hr.below hb0) hlt
 rw [hn'] at r0
 have p0:Blk ((w.alloc (.cells #[.slice A names.length c,.slice A' up.length c'] 25)).alloc (.cells #[.bool false,.int .i64 0,.int .i64 0] 73)) (w.heap.size+1) 73 #[.bool false,.int .i64 0,.int .i64 0]:=by
  have:=Blk.new (w.alloc (.cells #[.slice A names.length c,.slice A' up.length c'] 25)) 73 #[.bool false,.int .i64 0,.int .i64 0]
  simpa using this
 have q0:Blk ((w.alloc (.cells #[.slice A names.length c,.slice A' up.length c'] 25)).alloc (.cells #[.bool false,.int .i64 0,.int .i64 0] 73)) w.heap.size 25 #[.slice A names.length c,.slice A' up.length c']:=(Blk.new w 25 #[.slice A names.length c,.slice A' up.length c']).alloc _
 subst hR
 have HL:=η hlat
 have HB0:=η hb0
 have HP0:=η p0
 have HQ0:=η q0
 have HY:=η (hy _ hb0)
 have HX:=η hx
 have hres:Jg.two (jops up labs) 4 (.c a) (.c b)=.c (a || b):=rfl
 rw [hres]
 clear hres
 have hfy1:=hfy.1
 have hfy2:=hfy.2
 clear hb0 p0 q0 hlat hr hN hU hi hn' hy hx hfy
 unfold GaveV at HY HX ⊢
 dsimp only [Jg.Is,Jg.A] at HY HX ⊢
 have hva:a=true∨a=false:=by cases a <;> simp
 go_enter Tryz.func59,Tryz.ntmps59
 go_wp2_with (fail)
 refine HY.out.mono ?_
 rintro e w1 ⟨rfl,hb1⟩
 have HB1:=η (HB0.out.trans (hb1.mono (by simp; omega)))
 have HP1:=η (HP0.out.below hb1 HP0.out.lt)
 have HQ1:=η (HQ0.out.below hb1 HQ0.out.lt)
 have hs1:=HB1.out.size
 have HX1:=η (HX.out (w1.alloc (.cells #[.bool b,.int .i64 0,.int .i64 (fy:Int)] 73)) (HB1.out.alloc hs1 _))
 have c0:=HQ1.out.cell 0
 have c1:=HQ1.out.cell 1
 have hq1:=HQ1.out.lt
 have hp1:=HP1.out.lt
 clear hb1 HY HX
 go_wp2_with (fail)
 refine HX1.out.mono ?_
 rintro e w2 ⟨rfl,hb2⟩
 have HB2:=η ((HB1.out.alloc hs1 (.cells #[.bool b,.int .i64 0,.int .i64 (fy:Int)] 73)).trans (hb2.mono (by simp; omega)))
 have HP2:=η ((HP1.out.alloc _).below hb2 (by simp; omega))
 have HQ2:=η ((HQ1.out.alloc _).below hb2 (by simp; omega))
 have hy2:Blk w2 w1.heap.size 73 #[.bool b,.int .i64 0,.int .i64 (fy:Int)]:=(Blk.new w1 73 #[.bool b,.int .i64 0,.int .i64 (fy:Int)]).below hb2 (by simp)
 have hs2:w1.heap.size < w2.heap.size:=hy2.lt
 have hq2:w.heap.size < w2.heap.size:=HQ2.out.lt
 have d0:=HQ2.out.cell 0
 have d1:=HQ2.out.cell 1
 have y0:=hy2.cell 0
 have y1:=hy2.cell 1
 have pf0:=HP2.out.frozen 0
 have pf1:=HP2.out.frozen 1
 have pf2:=HP2.out.frozen 2
 have z0:=HP2.out.cell 0
 have z1:=HP2.out.cell 1
 have z2:=HP2.out.cell 2
 clear hb2 HX1 c0 c1 hy2
 have HB3:=η (HB2.out.alloc HB2.out.size (.cells #[.bool a,.int .i64 0,.int .i64 (fx:Int)] 73))
 have hne:w.heap.size+1 < w2.heap.size:=HP2.out.lt
 rcases hva with rfl | rfl
 ·go_upto_region 24 with (fail)
  obtain ⟨W,hW⟩:∃ W,(w2.alloc (.cells #[.bool true,.int .i64 0,.int .i64 (fx:Int)] 73)).alloc (.cells #[.bool true,.int .i64 0,.int .i64 (fx:Int)] 73)=W:=⟨_,rfl⟩
  have hbW:Below w.heap.size w W:=hW ▸ HB3.out.alloc (by have:=HB2.out.size; simp; omega) _
  have hpW:Blk W (w.heap.size+1) 73 #[.bool false,.int .i64 0,.int .i64 0]:=hW ▸ (HP2.out.alloc _).alloc _
  have hoW:Blk W (w2.heap.size+1) 73 #[.bool true,.int .i64 0,.int .i64 (fx:Int)]:=by
   rw [← hW]
   have:=Blk.new (w2.alloc (.cells #[.bool true,.int .i64 0,.int .i64 (fx:Int)] 73)) 73 #[.bool true,.int .i64 0,.int .i64 (fx:Int)]
   simpa using this
  clear z0 z1 z2 pf0 pf1 pf2 d0 d1 y0 y1
  rw [hW]
  clear hW
  have hf0:=hpW.frozen 0
  have hf1:=hpW.frozen 1
  have hf2:=hpW.frozen 2
  have hz0:=hpW.cell 0
  have hz1:=hpW.cell 1
  have hz2:=hpW.cell 2
  have ho0:=hoW.cell 0
  have ho1:=hoW.cell 1
  have ho2:=hoW.cell 2
  have hltW:=hoW.lt
  have HPW:=η hpW
  have HBW:=η hbW
  clear hpW hoW hbW
  go_wp2
  obtain ⟨W5,hW5⟩:∃ W5,((W.setCell ⟨w.heap.size+1,0,none⟩ (.bool true)).setCell ⟨w.heap.size+1,1,none⟩ (.int .i64 0)).setCell ⟨w.heap.size+1,2,none⟩ (.int .i64 (fx:Int))=W5:=⟨_,rfl⟩
  have hb5:Below w.heap.size w W5:=hW5 ▸ ((HBW.out.setCell (p:=⟨w.heap.size+1,0,none⟩) (by simp) _).setCell (p:=⟨w.heap.size+1,1,none⟩) (by simp) _).setCell (p:=⟨w.heap.size+1,2,none⟩) (by simp) _
  have hp5:Blk W5 (w.heap.size+1) 73 #[.bool true,.int .i64 0,.int .i64 (fx:Int)]:=hW5 ▸ ((HPW.out.set_ 0 _).set_ 1 _).set_ 2 _
  rw [hW5]
  clear hW5 hz0 hz1 hz2 ho0 ho1 ho2 HPW HBW
  have c0:=hp5.cell 0
  have c1:=hp5.cell 1
  have c2:=hp5.cell 2
  exact bodyPost_ret (v:=.agg #[.bool true,.int .i64 0,.int .i64 (fx:Int)]) (by simp [results,Tryz.results59,go_sem,c0,c1,c2]) rfl ⟨rfl,hb5⟩
 ·go_upto_region 24 with (fail)
  obtain ⟨W,hW⟩:∃ W,(w2.alloc (.cells #[.bool false,.int .i64 0,.int .i64 (fx:Int)] 73)).alloc (.cells #[.bool b,.int .i64 0,.int .i64 (fx:Int)] 73)=W:=⟨_,rfl⟩
  have hbW:Below w.heap.size w W:=hW ▸ HB3.out.alloc (by have:=HB2.out.size; simp; omega) _
  have hpW:Blk W (w.heap.size+1) 73 #[.bool false,.int .i64 0,.int .i64 0]:=hW ▸ (HP2.out.alloc _).alloc _
  have hoW:Blk W (w2.heap.size+1) 73 #[.bool b,.int .i64 0,.int .i64 (fx:Int)]:=by
   rw [← hW]
   have:=Blk.new (w2.alloc (.cells #[.bool false,.int .i64 0,.int .i64 (fx:Int)] 73)) 73 #[.bool b,.int .i64 0,.int .i64 (fx:Int)]
   simpa using this
  clear z0 z1 z2 pf0 pf1 pf2 d0 d1 y0 y1
  rw [hW]
  clear hW
  have hf0:=hpW.frozen 0
  have hf1:=hpW.frozen 1
  have hf2:=hpW.frozen 2
  have hz0:=hpW.cell 0
  have hz1:=hpW.cell 1
  have hz2:=hpW.cell 2
  have ho0:=hoW.cell 0
  have ho1:=hoW.cell 1
  have ho2:=hoW.cell 2
  have hltW:=hoW.lt
  have HPW:=η hpW
  have HBW:=η hbW
  clear hpW hoW hbW
  go_wp2
  obtain ⟨W5,hW5⟩:∃ W5,((W.setCell ⟨w.heap.size+1,0,none⟩ (.bool b)).setCell ⟨w.heap.size+1,1,none⟩ (.int .i64 0)).setCell ⟨w.heap.size+1,2,none⟩ (.int .i64 (fx:Int))=W5:=⟨_,rfl⟩
  have hb5:Below w.heap.size w W5:=hW5 ▸ ((HBW.out.setCell (p:=⟨w.heap.size+1,0,none⟩) (by simp) _).setCell (p:=⟨w.heap.size+1,1,none⟩) (by simp) _).setCell (p:=⟨w.heap.size+1,2,none⟩) (by simp) _
  have hp5:Blk W5 (w.heap.size+1) 73 #[.bool b,.int .i64 0,.int .i64 (fx:Int)]:=hW5 ▸ ((HPW.out.set_ 0 _).set_ 1 _).set_ 2 _
  rw [hW5]
  clear hW5 hz0 hz1 hz2 ho0 ho1 ho2 HPW HBW
  have c0:=hp5.cell 0
  have c1:=hp5.cell 1
  have c2:=hp5.cell 2
  exact bodyPost_ret (v:=.agg #[.bool b,.int .i64 0,.int .i64 (fx:Int)]) (by simp [results,Tryz.results59,go_sem,c0,c1,c2]) rfl ⟨rfl,hb5⟩
theorem rThing_5 {v:Value} {names:List ByteArray} {up:List Nat} {R L:Option Addr} {rule labs:List Int} (cr cl:Nat) (a b:Nat) (ha:a < up.length) (hb:b < up.length) (i fx fy:Nat) (hi:rule[i]? = some 5) (hil:rule.length≤1000000) (h1:1≤i) (hfy:1≤fy∧fy≤i) (w:World) (h:IsLat w w.heap.size v names up) (_:checkN names up=0) (hr:Row w w.heap.size R (ints rule))
  (hy:∀ W,Below w.heap.size w W→Calls Tryz.prog 59 #[v,.slice R rule.length cr,.slice L labs.length cl,.int .i64 ((i:Int) - 1)] W (GaveV W (.l b) fy))
  (hx:∀ W,Below w.heap.size w W→Calls Tryz.prog 59 #[v,.slice R rule.length cr,.slice L labs.length cl,.int .i64 ((fy:Int) - 1)] W (GaveV W (.l a) fx)) :
  Calls Tryz.prog 59 #[v,.slice R rule.length cr,.slice L labs.length cl,.int .i64 (i:Int)] w (GaveV w (Jg.two (jops up labs) 5 (.l a) (.l b)) fx):=by
 have hlt:i < rule.length:=(List.getElem?_eq_some_iff.1 hi).1
 have hn':rule[i]=5:=by rw [List.getElem?_eq_getElem hlt] at hi; injection hi
 have hlat:=h
 obtain ⟨⟨A,A',c,c',rfl,hN,hU⟩,-,-,-⟩:=h
 have hb0:Below w.heap.size w ((w.alloc (.cells #[.slice A names.length c,.slice A' up.length c'] 25)).alloc (.cells #[.bool false,.int .i64 0,.int .i64 0] 73)):=((Below.refl _ w).alloc (Nat.le_refl _) _).alloc (by simp) _
 obtain ⟨ra,hR,hrb,r0⟩:=irow_at (hr.below hb0) hlt
 rw [hn'] at r0
 have p0:Blk ((w.alloc (.cells #[.slice A names.length c,.slice A' up.length c'] 25)).alloc (.cells #[.bool false,.int .i64 0,.int .i64 0] 73)) (w.heap.size+1) 73 #[.bool false,.int .i64 0,.int .i64 0]:=by
  have:=Blk.new (w.alloc (.cells #[.slice A names.length c,.slice A' up.length c'] 25)) 73 #[.bool false,.int .i64 0,.int .i64 0]
  simpa using this
 have q0:Blk ((w.alloc (.cells #[.slice A names.length c,.slice A' up.length c'] 25)).alloc (.cells #[.bool false,.int .i64 0,.int .i64 0] 73)) w.heap.size 25 #[.slice A names.length c,.slice A' up.length c']:=(Blk.new w 25 #[.slice A names.length c,.slice A' up.length c']).alloc _
 subst hR
 have HL:=η hlat
 have HB0:=η hb0
 have HP0:=η p0
 have HQ0:=η q0
 have HY:=η (hy _ hb0)
 have HX:=η hx
 have hcall:∀ W',Below w.heap.size w W'→Calls Tryz.prog 76 #[.agg #[.slice A names.length c,.slice A' up.length c'],.int .i64 (a:Int),.int .i64 (b:Int)] W' fun e w'=>e=.returned (.bool (Lat.fl up a b))∧Below W'.heap.size W' w':=fun W' hW=>by
   have hlW:=(hlat.below hW).more hW.size
   have:=rFlows_any a b W' hlW ha (by have:=hlat.few.2; omega)
   exact this
 have hres:Jg.two (jops up labs) 5 (.l a) (.l b)=.c (Lat.fl up a b):=rfl
 rw [hres]
 generalize (Lat.fl up a b)=z at hcall ⊢
 have HCALL:=η hcall
 clear hcall hres
 have hfy1:=hfy.1
 have hfy2:=hfy.2
 clear hb0 p0 q0 hlat hr hN hU hi hn' hy hx hfy
 unfold GaveV at HY HX ⊢
 dsimp only [Jg.Is,Jg.A] at HY HX ⊢
 go_enter Tryz.func59,Tryz.ntmps59
 go_wp2_with (fail)
 refine HY.out.mono ?_
 rintro e w1 ⟨rfl,hb1⟩
 have HB1:=η (HB0.out.trans (hb1.mono (by simp; omega)))
 have HP1:=η (HP0.out.below hb1 HP0.out.lt)
 have HQ1:=η (HQ0.out.below hb1 HQ0.out.lt)
 have hs1:=HB1.out.size
 have HX1:=η (HX.out (w1.alloc (.cells #[.bool false,.int .i64 (b:Int),.int .i64 (fy:Int)] 73)) (HB1.out.alloc hs1 _))
 have c0:=HQ1.out.cell 0
 have c1:=HQ1.out.cell 1
 have hq1:=HQ1.out.lt
 have hp1:=HP1.out.lt
 clear hb1 HY HX
 go_wp2_with (fail)
 refine HX1.out.mono ?_
 rintro e w2 ⟨rfl,hb2⟩
 have HB2:=η ((HB1.out.alloc hs1 (.cells #[.bool false,.int .i64 (b:Int),.int .i64 (fy:Int)] 73)).trans (hb2.mono (by simp; omega)))
 have HP2:=η ((HP1.out.alloc _).below hb2 (by simp; omega))
 have HQ2:=η ((HQ1.out.alloc _).below hb2 (by simp; omega))
 have hy2:Blk w2 w1.heap.size 73 #[.bool false,.int .i64 (b:Int),.int .i64 (fy:Int)]:=(Blk.new w1 73 #[.bool false,.int .i64 (b:Int),.int .i64 (fy:Int)]).below hb2 (by simp)
 have hs2:w1.heap.size < w2.heap.size:=hy2.lt
 have hq2:w.heap.size < w2.heap.size:=HQ2.out.lt
 have d0:=HQ2.out.cell 0
 have d1:=HQ2.out.cell 1
 have y0:=hy2.cell 0
 have y1:=hy2.cell 1
 have pf0:=HP2.out.frozen 0
 have pf1:=HP2.out.frozen 1
 have pf2:=HP2.out.frozen 2
 have z0:=HP2.out.cell 0
 have z1:=HP2.out.cell 1
 have z2:=HP2.out.cell 2
 clear hb2 HX1 c0 c1 hy2
 have HB3:=η ((HB2.out.alloc HB2.out.size (.cells #[.bool false,.int .i64 (a:Int),.int .i64 (fx:Int)] 73)).alloc (by have:=HB2.out.size; simp; omega) (.cells #[.bool false,.int .i64 0,.int .i64 (fx:Int)] 73))
 have HC3:=η (HCALL.out ((w2.alloc (.cells #[.bool false,.int .i64 (a:Int),.int .i64 (fx:Int)] 73)).alloc (.cells #[.bool false,.int .i64 0,.int .i64 (fx:Int)] 73)) HB3.out)
 go_wp2_with (fail)
 refine HC3.out.mono ?_
 rintro e w3 ⟨rfl,hb3⟩
 have HB4:=η (HB3.out.trans (hb3.mono (by have:=HB2.out.size; simp; omega)))
 have hp3:=((HP2.out.alloc (.cells #[.bool false,.int .i64 (a:Int),.int .i64 (fx:Int)] 73)).alloc (.cells #[.bool false,.int .i64 0,.int .i64 (fx:Int)] 73)).below hb3 (by have:=HP2.out.lt; simp; omega)
 have ho3:Blk w3 (w2.heap.size+1) 73 #[.bool false,.int .i64 0,.int .i64 (fx:Int)]:=by
  have:=(Blk.new (w2.alloc (.cells #[.bool false,.int .i64 (a:Int),.int .i64 (fx:Int)] 73)) 73 #[.bool false,.int .i64 0,.int .i64 (fx:Int)]).below hb3 (by simp)
  simpa using this
 have hne:w.heap.size+1 < w2.heap.size+1:=by have:=HP2.out.lt; omega
 have hlt3:w2.heap.size+1 < w3.heap.size:=ho3.lt
 clear hb3 HC3 HCALL z0 z1 z2 pf0 pf1 pf2 d0 d1 y0 y1
 have bf0:=ho3.frozen 0
 have b0:=ho3.cell 0
 have HO3:=η ho3
 have HP3:=η hp3
 clear ho3 hp3
 go_upto_region 24 with (fail)
 obtain ⟨W,hW⟩:∃ W,w3.setCell ⟨w2.heap.size+1,0,none⟩ (.bool z)=W:=⟨_,rfl⟩
 have hbW:Below w.heap.size w W:=hW ▸ HB4.out.setCell (p:=⟨w2.heap.size+1,0,none⟩) (by have:=HB2.out.size; simp; omega) _
 have hpW:Blk W (w.heap.size+1) 73 #[.bool false,.int .i64 0,.int .i64 0]:=hW ▸ HP3.out.other (p:=⟨w2.heap.size+1,0,none⟩) (by simp; omega) _
 have hoW:Blk W (w2.heap.size+1) 73 #[.bool z,.int .i64 0,.int .i64 (fx:Int)]:=hW ▸ HO3.out.set_ 0 _
 clear b0 bf0 HO3 HP3
 rw [hW]
 clear hW
 have hf0:=hpW.frozen 0
 have hf1:=hpW.frozen 1
 have hf2:=hpW.frozen 2
 have hz0:=hpW.cell 0
 have hz1:=hpW.cell 1
 have hz2:=hpW.cell 2
 have ho0:=hoW.cell 0
 have ho1:=hoW.cell 1
 have ho2:=hoW.cell 2
 have hltW:=hoW.lt
 have HPW:=η hpW
 have HBW:=η hbW
 clear hpW hoW hbW
 go_wp2
 obtain ⟨W5,hW5⟩:∃ W5,((W.setCell ⟨w.heap.size+1,0,none⟩ (.bool z)).setCell ⟨w.heap.size+1,1,none⟩ (.int .i64 0)).setCell ⟨w.heap.size+1,2,none⟩ (.int .i64 (fx:Int))=W5:=⟨_,rfl⟩
 have hb5:Below w.heap.size w W5:=hW5 ▸ ((HBW.out.setCell (p:=⟨w.heap.size+1,0,none⟩) (by simp) _).setCell (p:=⟨w.heap.size+1,1,none⟩) (by simp) _).setCell (p:=⟨w.heap.size+1,2,none⟩) (by simp) _
 have hp5:Blk W5 (w.heap.size+1) 73 #[.bool z,.int .i64 0,.int .i64 (fx:Int)]:=hW5 ▸ ((HPW.out.set_ 0 _).set_ 1 _).set_ 2 _
 rw [hW5]
 clear hW5 hz0 hz1 hz2 ho0 ho1 ho2 HPW HBW
 have c0:=hp5.cell 0
 have c1:=hp5.cell 1
 have c2:=hp5.cell 2
 exact bodyPost_ret (v:=.agg #[.bool z,.int .i64 0,.int .i64 (fx:Int)]) (by simp [results,Tryz.results59,go_sem,c0,c1,c2]) rfl ⟨rfl,hb5⟩
theorem rThing_12 {v:Value} {names:List ByteArray} {up:List Nat} {R L:Option Addr} {rule labs:List Int} (cr cl:Nat) (a b:Nat) (ha:a < up.length) (hb:b < up.length) (i fx fy:Nat) (hi:rule[i]? = some 12) (hil:rule.length≤1000000) (h1:1≤i) (hfy:1≤fy∧fy≤i) (w:World) (h:IsLat w w.heap.size v names up) (hz:checkN names up=0) (hr:Row w w.heap.size R (ints rule))
  (hy:∀ W,Below w.heap.size w W→Calls Tryz.prog 59 #[v,.slice R rule.length cr,.slice L labs.length cl,.int .i64 ((i:Int) - 1)] W (GaveV W (.l b) fy))
  (hx:∀ W,Below w.heap.size w W→Calls Tryz.prog 59 #[v,.slice R rule.length cr,.slice L labs.length cl,.int .i64 ((fy:Int) - 1)] W (GaveV W (.l a) fx)) :
  Calls Tryz.prog 59 #[v,.slice R rule.length cr,.slice L labs.length cl,.int .i64 (i:Int)] w (GaveV w (Jg.two (jops up labs) 12 (.l a) (.l b)) fx):=by
 have hlt:i < rule.length:=(List.getElem?_eq_some_iff.1 hi).1
 have hn':rule[i]=12:=by rw [List.getElem?_eq_getElem hlt] at hi; injection hi
 have hlat:=h
 obtain ⟨⟨A,A',c,c',rfl,hN,hU⟩,-,-,-⟩:=h
 have hb0:Below w.heap.size w ((w.alloc (.cells #[.slice A names.length c,.slice A' up.length c'] 25)).alloc (.cells #[.bool false,.int .i64 0,.int .i64 0] 73)):=((Below.refl _ w).alloc (Nat.le_refl _) _).alloc (by simp) _
 obtain ⟨ra,hR,hrb,r0⟩:=irow_at (hr.below hb0) hlt
 rw [hn'] at r0
 have p0:Blk ((w.alloc (.cells #[.slice A names.length c,.slice A' up.length c'] 25)).alloc (.cells #[.bool false,.int .i64 0,.int .i64 0] 73)) (w.heap.size+1) 73 #[.bool false,.int .i64 0,.int .i64 0]:=by
  have:=Blk.new (w.alloc (.cells #[.slice A names.length c,.slice A' up.length c'] 25)) 73 #[.bool false,.int .i64 0,.int .i64 0]
  simpa using this
 have q0:Blk ((w.alloc (.cells #[.slice A names.length c,.slice A' up.length c'] 25)).alloc (.cells #[.bool false,.int .i64 0,.int .i64 0] 73)) w.heap.size 25 #[.slice A names.length c,.slice A' up.length c']:=(Blk.new w 25 #[.slice A names.length c,.slice A' up.length c']).alloc _
 subst hR
 have HL:=η hlat
 have HB0:=η hb0
 have HP0:=η p0
 have HQ0:=η q0
 have HY:=η (hy _ hb0)
 have HX:=η hx
 have hcall:∀ W',Below w.heap.size w W'→Calls Tryz.prog 47 #[.agg #[.slice A names.length c,.slice A' up.length c'],.int .i64 (a:Int),.int .i64 (b:Int)] W' fun e w'=>e=.returned (.int .i64 (Lat.leastN up (Lat.joinS up a b):Nat))∧Below W'.heap.size W' w':=fun W' hW=>by
   have hlW:=(hlat.below hW).more hW.size
   have:=rJoin_any a b W' hlW ha hb
   rw [(latt_of hz).rJoin_eq ha hb] at this
   exact this
 have hres:Jg.two (jops up labs) 12 (.l a) (.l b)=.l (Lat.leastN up (Lat.joinS up a b)):=rfl
 rw [hres]
 generalize (Lat.leastN up (Lat.joinS up a b))=z at hcall ⊢
 have HCALL:=η hcall
 clear hcall hres
 have hfy1:=hfy.1
 have hfy2:=hfy.2
 clear hb0 p0 q0 hlat hz hr hN hU hi hn' hy hx hfy
 unfold GaveV at HY HX ⊢
 dsimp only [Jg.Is,Jg.A] at HY HX ⊢
 go_enter Tryz.func59,Tryz.ntmps59
 go_wp2_with (fail)
 refine HY.out.mono ?_
 rintro e w1 ⟨rfl,hb1⟩
 have HB1:=η (HB0.out.trans (hb1.mono (by simp; omega)))
 have HP1:=η (HP0.out.below hb1 HP0.out.lt)
 have HQ1:=η (HQ0.out.below hb1 HQ0.out.lt)
 have hs1:=HB1.out.size
 have HX1:=η (HX.out (w1.alloc (.cells #[.bool false,.int .i64 (b:Int),.int .i64 (fy:Int)] 73)) (HB1.out.alloc hs1 _))
 have c0:=HQ1.out.cell 0
 have c1:=HQ1.out.cell 1
 have hq1:=HQ1.out.lt
 have hp1:=HP1.out.lt
 clear hb1 HY HX
 go_wp2_with (fail)
 refine HX1.out.mono ?_
 rintro e w2 ⟨rfl,hb2⟩
 have HB2:=η ((HB1.out.alloc hs1 (.cells #[.bool false,.int .i64 (b:Int),.int .i64 (fy:Int)] 73)).trans (hb2.mono (by simp; omega)))
 have HP2:=η ((HP1.out.alloc _).below hb2 (by simp; omega))
 have HQ2:=η ((HQ1.out.alloc _).below hb2 (by simp; omega))
 have hy2:Blk w2 w1.heap.size 73 #[.bool false,.int .i64 (b:Int),.int .i64 (fy:Int)]:=(Blk.new w1 73 #[.bool false,.int .i64 (b:Int),.int .i64 (fy:Int)]).below hb2 (by simp)
 have hs2:w1.heap.size < w2.heap.size:=hy2.lt
 have hq2:w.heap.size < w2.heap.size:=HQ2.out.lt
 have d0:=HQ2.out.cell 0
 have d1:=HQ2.out.cell 1
 have y0:=hy2.cell 0
 have y1:=hy2.cell 1
 have pf0:=HP2.out.frozen 0
 have pf1:=HP2.out.frozen 1
 have pf2:=HP2.out.frozen 2
 have z0:=HP2.out.cell 0
 have z1:=HP2.out.cell 1
 have z2:=HP2.out.cell 2
 clear hb2 HX1 c0 c1 hy2
 have HB3:=η ((HB2.out.alloc HB2.out.size (.cells #[.bool false,.int .i64 (a:Int),.int .i64 (fx:Int)] 73)).alloc (by have:=HB2.out.size; simp; omega) (.cells #[.bool false,.int .i64 0,.int .i64 (fx:Int)] 73))
 have HC3:=η (HCALL.out ((w2.alloc (.cells #[.bool false,.int .i64 (a:Int),.int .i64 (fx:Int)] 73)).alloc (.cells #[.bool false,.int .i64 0,.int .i64 (fx:Int)] 73)) HB3.out)
 go_wp2_with (fail)
 refine HC3.out.mono ?_
 rintro e w3 ⟨rfl,hb3⟩
 have HB4:=η (HB3.out.trans (hb3.mono (by have:=HB2.out.size; simp; omega)))
 have hp3:=((HP2.out.alloc (.cells #[.bool false,.int .i64 (a:Int),.int .i64 (fx:Int)] 73)).alloc (.cells #[.bool false,.int .i64 0,.int .i64 (fx:Int)] 73)).below hb3 (by have:=HP2.out.lt; simp; omega)
 have ho3:Blk w3 (w2.heap.size+1) 73 #[.bool false,.int .i64 0,.int .i64 (fx:Int)]:=by
  have:=(Blk.new (w2.alloc (.cells #[.bool false,.int .i64 (a:Int),.int .i64 (fx:Int)] 73)) 73 #[.bool false,.int .i64 0,.int .i64 (fx:Int)]).below hb3 (by simp)
  simpa using this
 have hne:w.heap.size+1 < w2.heap.size+1:=by have:=HP2.out.lt; omega
 have hlt3:w2.heap.size+1 < w3.heap.size:=ho3.lt
 clear hb3 HC3 HCALL z0 z1 z2 pf0 pf1 pf2 d0 d1 y0 y1
 have bf1:=ho3.frozen 1
 have b1:=ho3.cell 1
 have HO3:=η ho3
 have HP3:=η hp3
 clear ho3 hp3
 go_upto_region 24 with (fail)
 obtain ⟨W,hW⟩:∃ W,w3.setCell ⟨w2.heap.size+1,1,none⟩ (.int .i64 (z:Int))=W:=⟨_,rfl⟩
 have hbW:Below w.heap.size w W:=hW ▸ HB4.out.setCell (p:=⟨w2.heap.size+1,1,none⟩) (by have:=HB2.out.size; simp; omega) _
 have hpW:Blk W (w.heap.size+1) 73 #[.bool false,.int .i64 0,.int .i64 0]:=hW ▸ HP3.out.other (p:=⟨w2.heap.size+1,1,none⟩) (by simp; omega) _
 have hoW:Blk W (w2.heap.size+1) 73 #[.bool false,.int .i64 (z:Int),.int .i64 (fx:Int)]:=hW ▸ HO3.out.set_ 1 _
 clear b1 bf1 HO3 HP3
 rw [hW]
 clear hW
 have hf0:=hpW.frozen 0
 have hf1:=hpW.frozen 1
 have hf2:=hpW.frozen 2
 have hz0:=hpW.cell 0
 have hz1:=hpW.cell 1
 have hz2:=hpW.cell 2
 have ho0:=hoW.cell 0
 have ho1:=hoW.cell 1
 have ho2:=hoW.cell 2
 have hltW:=hoW.lt
 have HPW:=η hpW
 have HBW:=η hbW
 clear hpW hoW hbW
 go_wp2
 obtain ⟨W5,hW5⟩:∃ W5,((W.setCell ⟨w.heap.size+1,0,none⟩ (.bool false)).setCell ⟨w.heap.size+1,1,none⟩ (.int .i64 (z:Int))).setCell ⟨w.heap.size+1,2,none⟩ (.int .i64 (fx:Int))=W5:=⟨_,rfl⟩
 have hb5:Below w.heap.size w W5:=hW5 ▸ ((HBW.out.setCell (p:=⟨w.heap.size+1,0,none⟩) (by simp) _).setCell (p:=⟨w.heap.size+1,1,none⟩) (by simp) _).setCell (p:=⟨w.heap.size+1,2,none⟩) (by simp) _
 have hp5:Blk W5 (w.heap.size+1) 73 #[.bool false,.int .i64 (z:Int),.int .i64 (fx:Int)]:=hW5 ▸ ((HPW.out.set_ 0 _).set_ 1 _).set_ 2 _
 rw [hW5]
 clear hW5 hz0 hz1 hz2 ho0 ho1 ho2 HPW HBW
 have c0:=hp5.cell 0
 have c1:=hp5.cell 1
 have c2:=hp5.cell 2
 exact bodyPost_ret (v:=.agg #[.bool false,.int .i64 (z:Int),.int .i64 (fx:Int)]) (by simp [results,Tryz.results59,go_sem,c0,c1,c2]) rfl ⟨rfl,hb5⟩
theorem rThing_13 {v:Value} {names:List ByteArray} {up:List Nat} {R L:Option Addr} {rule labs:List Int} (cr cl:Nat) (a b:Nat) (ha:a < up.length) (hb:b < up.length) (i fx fy:Nat) (hi:rule[i]? = some 13) (hil:rule.length≤1000000) (h1:1≤i) (hfy:1≤fy∧fy≤i) (w:World) (h:IsLat w w.heap.size v names up) (hz:checkN names up=0) (hr:Row w w.heap.size R (ints rule))
  (hy:∀ W,Below w.heap.size w W→Calls Tryz.prog 59 #[v,.slice R rule.length cr,.slice L labs.length cl,.int .i64 ((i:Int) - 1)] W (GaveV W (.l b) fy))
  (hx:∀ W,Below w.heap.size w W→Calls Tryz.prog 59 #[v,.slice R rule.length cr,.slice L labs.length cl,.int .i64 ((fy:Int) - 1)] W (GaveV W (.l a) fx)) :
  Calls Tryz.prog 59 #[v,.slice R rule.length cr,.slice L labs.length cl,.int .i64 (i:Int)] w (GaveV w (Jg.two (jops up labs) 13 (.l a) (.l b)) fx):=by
 have hlt:i < rule.length:=(List.getElem?_eq_some_iff.1 hi).1
 have hn':rule[i]=13:=by rw [List.getElem?_eq_getElem hlt] at hi; injection hi
 have hlat:=h
 obtain ⟨⟨A,A',c,c',rfl,hN,hU⟩,-,-,-⟩:=h
 have hb0:Below w.heap.size w ((w.alloc (.cells #[.slice A names.length c,.slice A' up.length c'] 25)).alloc (.cells #[.bool false,.int .i64 0,.int .i64 0] 73)):=((Below.refl _ w).alloc (Nat.le_refl _) _).alloc (by simp) _
 obtain ⟨ra,hR,hrb,r0⟩:=irow_at (hr.below hb0) hlt
 rw [hn'] at r0
 have p0:Blk ((w.alloc (.cells #[.slice A names.length c,.slice A' up.length c'] 25)).alloc (.cells #[.bool false,.int .i64 0,.int .i64 0] 73)) (w.heap.size+1) 73 #[.bool false,.int .i64 0,.int .i64 0]:=by
  have:=Blk.new (w.alloc (.cells #[.slice A names.length c,.slice A' up.length c'] 25)) 73 #[.bool false,.int .i64 0,.int .i64 0]
  simpa using this
 have q0:Blk ((w.alloc (.cells #[.slice A names.length c,.slice A' up.length c'] 25)).alloc (.cells #[.bool false,.int .i64 0,.int .i64 0] 73)) w.heap.size 25 #[.slice A names.length c,.slice A' up.length c']:=(Blk.new w 25 #[.slice A names.length c,.slice A' up.length c']).alloc _
 subst hR
 have HL:=η hlat
 have HB0:=η hb0
 have HP0:=η p0
 have HQ0:=η q0
 have HY:=η (hy _ hb0)
 have HX:=η hx
 have hcall:∀ W',Below w.heap.size w W'→Calls Tryz.prog 48 #[.agg #[.slice A names.length c,.slice A' up.length c'],.int .i64 (a:Int),.int .i64 (b:Int)] W' fun e w'=>e=.returned (.int .i64 (Lat.leastN (Lat.turned up) (Lat.joinS (Lat.turned up) a b):Nat))∧Below W'.heap.size W' w':=fun W' hW=>by
   have hlW:=(hlat.below hW).more hW.size
   have:=rMeet_any a b W' hlW ha hb
   rw [(latt_of hz).rMeet_eq ha hb] at this
   exact this
 have hres:Jg.two (jops up labs) 13 (.l a) (.l b)=.l (Lat.leastN (Lat.turned up) (Lat.joinS (Lat.turned up) a b)):=rfl
 rw [hres]
 generalize (Lat.leastN (Lat.turned up) (Lat.joinS (Lat.turned up) a b))=z at hcall ⊢
 have HCALL:=η hcall
 clear hcall hres
 have hfy1:=hfy.1
 have hfy2:=hfy.2
 clear hb0 p0 q0 hlat hz hr hN hU hi hn' hy hx hfy
 unfold GaveV at HY HX ⊢
 dsimp only [Jg.Is,Jg.A] at HY HX ⊢
 go_enter Tryz.func59,Tryz.ntmps59
 go_wp2_with (fail)
 refine HY.out.mono ?_
 rintro e w1 ⟨rfl,hb1⟩
 have HB1:=η (HB0.out.trans (hb1.mono (by simp; omega)))
 have HP1:=η (HP0.out.below hb1 HP0.out.lt)
 have HQ1:=η (HQ0.out.below hb1 HQ0.out.lt)
 have hs1:=HB1.out.size
 have HX1:=η (HX.out (w1.alloc (.cells #[.bool false,.int .i64 (b:Int),.int .i64 (fy:Int)] 73)) (HB1.out.alloc hs1 _))
 have c0:=HQ1.out.cell 0
 have c1:=HQ1.out.cell 1
 have hq1:=HQ1.out.lt
 have hp1:=HP1.out.lt
 clear hb1 HY HX
 go_wp2_with (fail)
 refine HX1.out.mono ?_
 rintro e w2 ⟨rfl,hb2⟩
 have HB2:=η ((HB1.out.alloc hs1 (.cells #[.bool false,.int .i64 (b:Int),.int .i64 (fy:Int)] 73)).trans (hb2.mono (by simp; omega)))
 have HP2:=η ((HP1.out.alloc _).below hb2 (by simp; omega))
 have HQ2:=η ((HQ1.out.alloc _).below hb2 (by simp; omega))
 have hy2:Blk w2 w1.heap.size 73 #[.bool false,.int .i64 (b:Int),.int .i64 (fy:Int)]:=(Blk.new w1 73 #[.bool false,.int .i64 (b:Int),.int .i64 (fy:Int)]).below hb2 (by simp)
 have hs2:w1.heap.size < w2.heap.size:=hy2.lt
 have hq2:w.heap.size < w2.heap.size:=HQ2.out.lt
 have d0:=HQ2.out.cell 0
 have d1:=HQ2.out.cell 1
 have y0:=hy2.cell 0
 have y1:=hy2.cell 1
 have pf0:=HP2.out.frozen 0
 have pf1:=HP2.out.frozen 1
 have pf2:=HP2.out.frozen 2
 have z0:=HP2.out.cell 0
 have z1:=HP2.out.cell 1
 have z2:=HP2.out.cell 2
 clear hb2 HX1 c0 c1 hy2
 have HB3:=η ((HB2.out.alloc HB2.out.size (.cells #[.bool false,.int .i64 (a:Int),.int .i64 (fx:Int)] 73)).alloc (by have:=HB2.out.size; simp; omega) (.cells #[.bool false,.int .i64 0,.int .i64 (fx:Int)] 73))
 have HC3:=η (HCALL.out ((w2.alloc (.cells #[.bool false,.int .i64 (a:Int),.int .i64 (fx:Int)] 73)).alloc (.cells #[.bool false,.int .i64 0,.int .i64 (fx:Int)] 73)) HB3.out)
 go_wp2_with (fail)
 refine HC3.out.mono ?_
 rintro e w3 ⟨rfl,hb3⟩
 have HB4:=η (HB3.out.trans (hb3.mono (by have:=HB2.out.size; simp; omega)))
 have hp3:=((HP2.out.alloc (.cells #[.bool false,.int .i64 (a:Int),.int .i64 (fx:Int)] 73)).alloc (.cells #[.bool false,.int .i64 0,.int .i64 (fx:Int)] 73)).below hb3 (by have:=HP2.out.lt; simp; omega)
 have ho3:Blk w3 (w2.heap.size+1) 73 #[.bool false,.int .i64 0,.int .i64 (fx:Int)]:=by
  have:=(Blk.new (w2.alloc (.cells #[.bool false,.int .i64 (a:Int),.int .i64 (fx:Int)] 73)) 73 #[.bool false,.int .i64 0,.int .i64 (fx:Int)]).below hb3 (by simp)
  simpa using this
 have hne:w.heap.size+1 < w2.heap.size+1:=by have:=HP2.out.lt; omega
 have hlt3:w2.heap.size+1 < w3.heap.size:=ho3.lt
 clear hb3 HC3 HCALL z0 z1 z2 pf0 pf1 pf2 d0 d1 y0 y1
 have bf1:=ho3.frozen 1
 have b1:=ho3.cell 1
 have HO3:=η ho3
 have HP3:=η hp3
 clear ho3 hp3
 go_upto_region 24 with (fail)
 obtain ⟨W,hW⟩:∃ W,w3.setCell ⟨w2.heap.size+1,1,none⟩ (.int .i64 (z:Int))=W:=⟨_,rfl⟩
 have hbW:Below w.heap.size w W:=hW ▸ HB4.out.setCell (p:=⟨w2.heap.size+1,1,none⟩) (by have:=HB2.out.size; simp; omega) _
 have hpW:Blk W (w.heap.size+1) 73 #[.bool false,.int .i64 0,.int .i64 0]:=hW ▸ HP3.out.other (p:=⟨w2.heap.size+1,1,none⟩) (by simp; omega) _
 have hoW:Blk W (w2.heap.size+1) 73 #[.bool false,.int .i64 (z:Int),.int .i64 (fx:Int)]:=hW ▸ HO3.out.set_ 1 _
 clear b1 bf1 HO3 HP3
 rw [hW]
 clear hW
 have hf0:=hpW.frozen 0
 have hf1:=hpW.frozen 1
 have hf2:=hpW.frozen 2
 have hz0:=hpW.cell 0
 have hz1:=hpW.cell 1
 have hz2:=hpW.cell 2
 have ho0:=hoW.cell 0
 have ho1:=hoW.cell 1
 have ho2:=hoW.cell 2
 have hltW:=hoW.lt
 have HPW:=η hpW
 have HBW:=η hbW
 clear hpW hoW hbW
 go_wp2
 obtain ⟨W5,hW5⟩:∃ W5,((W.setCell ⟨w.heap.size+1,0,none⟩ (.bool false)).setCell ⟨w.heap.size+1,1,none⟩ (.int .i64 (z:Int))).setCell ⟨w.heap.size+1,2,none⟩ (.int .i64 (fx:Int))=W5:=⟨_,rfl⟩
 have hb5:Below w.heap.size w W5:=hW5 ▸ ((HBW.out.setCell (p:=⟨w.heap.size+1,0,none⟩) (by simp) _).setCell (p:=⟨w.heap.size+1,1,none⟩) (by simp) _).setCell (p:=⟨w.heap.size+1,2,none⟩) (by simp) _
 have hp5:Blk W5 (w.heap.size+1) 73 #[.bool false,.int .i64 (z:Int),.int .i64 (fx:Int)]:=hW5 ▸ ((HPW.out.set_ 0 _).set_ 1 _).set_ 2 _
 rw [hW5]
 clear hW5 hz0 hz1 hz2 ho0 ho1 ho2 HPW HBW
 have c0:=hp5.cell 0
 have c1:=hp5.cell 1
 have c2:=hp5.cell 2
 exact bodyPost_ret (v:=.agg #[.bool false,.int .i64 (z:Int),.int .i64 (fx:Int)]) (by simp [results,Tryz.results59,go_sem,c0,c1,c2]) rfl ⟨rfl,hb5⟩
theorem Labs.more {w:World} {B B':Nat} {L:Option Addr} {up:List Nat} {labs:List Int} (h:Labs w B L up labs) (hB:B≤B'):Labs w B' L up labs:=⟨h.row.more hB,h.four,h.ok⟩
theorem rThing_tree {v:Value} {names:List ByteArray} {up:List Nat} {R L:Option Addr} {rule labs:List Int} (cr cl:Nat) (hil:rule.length≤1000000) (hz:checkN names up=0) (hlo:labsOk up labs=true):∀ (t:Sh.Tree) (b:Bool) (pre suf:List Int) (w:World),Sh.Ok b t→rule=pre++Sh.post t++suf→IsLat w w.heap.size v names up→Row w w.heap.size R (ints rule)→Labs w w.heap.size L up labs →
  ∀ i:Nat,i+1=pre.length+(Sh.post t).length→Calls Tryz.prog 59 #[v,.slice R rule.length cr,.slice L labs.length cl,.int .i64 (i:Int)] w (GaveV w (Jg.ev (jops up labs) t) pre.length)
 | .leaf n,b,pre,suf,w,hok,he,h,hr,hlab,i,hi=>by
  have hi2:i=pre.length:=by simp [Sh.post] at hi; omega
  subst hi2
  refine rThing_leaf cr cl n pre.length ?_ ?_ hil w h hz hr hlab
  ·unfold Sh.Ok at hok; omega
  ·rw [he]; simp [Sh.post]
 | .node n x y,b,pre,suf,w,hok,he,h,hr,hlab,i,hi=>by
  have hf:=fine_of hz hlo
  have hpx:=Sh.post_pos x
  have hpy:=Sh.post_pos y
  have hi2:i=pre.length+(Sh.post x).length+(Sh.post y).length:=by simp [Sh.post] at hi; omega
  have hlen:rule.length=pre.length+((Sh.post x).length+(Sh.post y).length+1)+suf.length:=by rw [he]; simp [Sh.post]; omega
  have hat:rule[i]? = some n:=by
   rw [he,hi2]
   show (pre++(Sh.post x++Sh.post y++[n])++suf)[_]? = _
   rw [List.append_assoc,List.getElem?_append_right (by omega),List.getElem?_append_left (by simp; omega),List.getElem?_append_right (by simp; omega)]
   have:pre.length+(Sh.post x).length+(Sh.post y).length - pre.length - (Sh.post x++Sh.post y).length=0:=by simp; omega
   rw [this]
   rfl
  have he1:rule=pre++Sh.post x++(Sh.post y++[n]++suf):=by rw [he]; simp [Sh.post]
  have he2:rule=(pre++Sh.post x)++Sh.post y++([n]++suf):=by rw [he]; simp [Sh.post]
  have hyy:∀ b',Sh.Ok b' y→∀ W,Below w.heap.size w W→Calls Tryz.prog 59 #[v,.slice R rule.length cr,.slice L labs.length cl,.int .i64 ((i:Int) - 1)] W (GaveV W (Jg.ev (jops up labs) y) (pre.length+(Sh.post x).length)):=fun b' hy W hW=>by
   have:=rThing_tree cr cl hil hz hlo y b' (pre++Sh.post x) ([n]++suf) W hy he2 ((h.below hW).more hW.size) ((hr.below hW).more hW.size) ((hlab.below hW).more hW.size) (i - 1) (by simp; omega)
   rw [show ((i - 1:Nat):Int)=(i:Int) - 1 by omega,List.length_append] at this
   exact this
  have hxx:∀ b',Sh.Ok b' x→∀ W,Below w.heap.size w W→Calls Tryz.prog 59 #[v,.slice R rule.length cr,.slice L labs.length cl,.int .i64 (((pre.length+(Sh.post x).length:Nat):Int) - 1)] W (GaveV W (Jg.ev (jops up labs) x) pre.length):=fun b' hx W hW=>by
   have:=rThing_tree cr cl hil hz hlo x b' pre (Sh.post y++[n]++suf) W hx he1 ((h.below hW).more hW.size) ((hr.below hW).more hW.size) ((hlab.below hW).more hW.size) (pre.length+(Sh.post x).length - 1) (by omega)
   rw [show ((pre.length+(Sh.post x).length - 1:Nat):Int)=((pre.length+(Sh.post x).length:Nat):Int) - 1 by omega] at this
   exact this
  show Calls _ _ _ _ (GaveV w (Jg.two (jops up labs) n (Jg.ev (jops up labs) x) (Jg.ev (jops up labs) y)) pre.length)
  have hfy:1≤pre.length+(Sh.post x).length∧pre.length+(Sh.post x).length≤i:=by omega
  unfold Sh.Ok at hok
  rcases hok with ⟨_,hn,hx,hy⟩ | ⟨_,hn,hx,hy⟩ | ⟨_,hn,hx,hy⟩
  all_goals
   have sx:=Jg.ev_sort (o:=jops up labs) x _ hx
   have sy:=Jg.ev_sort (o:=jops up labs) y _ hy
   have gx:=Jg.ev_good hf x _ hx
   have gy:=Jg.ev_good hf y _ hy
   have cx:=hxx _ hx
   have cy:=hyy _ hy
   generalize Jg.ev (jops up labs) x=u at *
   generalize Jg.ev (jops up labs) y=z at *
  ·cases u with
   | l _=>cases sx
   | c p =>
    cases z with
    | l _=>cases sy
    | c q =>
     rcases hn with rfl | rfl
     ·exact rThing_3 cr cl p q i pre.length _ hat hil (by omega) hfy w h hz hr cy cx
     ·exact rThing_4 cr cl p q i pre.length _ hat hil (by omega) hfy w h hz hr cy cx
  ·cases u with
   | c _=>cases sx
   | l p =>
    cases z with
    | c _=>cases sy
    | l q =>
     subst hn
     exact rThing_5 cr cl p q gx gy i pre.length _ hat hil (by omega) hfy w h hz hr cy cx
  ·cases u with
   | c _=>cases sx
   | l p =>
    cases z with
    | c _=>cases sy
    | l q =>
     rcases hn with rfl | rfl
     ·exact rThing_12 cr cl p q gx gy i pre.length _ hat hil (by omega) hfy w h hz hr cy cx
     ·exact rThing_13 cr cl p q gx gy i pre.length _ hat hil (by omega) hfy w h hz hr cy cx
theorem rJudge_any {v:Value} {names:List ByteArray} {up:List Nat} {R L:Option Addr} {rule labs:List Int} (cr cl:Nat) (sort:Bool) (hok:jWhy names up rule labs sort=0) (hrl:rule.length≤1000000) (w:World) (h:IsLat w w.heap.size v names up) (hr:Row w w.heap.size R (ints rule)) (hl:Row w w.heap.size L (ints labs)) :
  Calls Tryz.prog 27 #[v,.slice R rule.length cr,.slice L labs.length cl] w (GaveV w (Jg.val (jops up labs) rule) 0):=by
 obtain ⟨z1,z2,z3⟩:=jWhy_zero hok
 obtain ⟨t,ht,hp,-⟩:=Sh.right_tree z2
 have hpos:=Sh.post_pos t
 have hlen:(Sh.post t).length=rule.length:=by rw [hp]
 have hlat:=h
 obtain ⟨⟨A,A',c,c',rfl,-,-⟩,-,-,-⟩:=h
 have hb0:Below w.heap.size w ((w.alloc (.cells #[.slice A names.length c,.slice A' up.length c'] 25)).alloc (.cells #[.bool false,.int .i64 0,.int .i64 0] 73)):=((Below.refl _ w).alloc (Nat.le_refl _) _).alloc (by simp) _
 have p0:Blk ((w.alloc (.cells #[.slice A names.length c,.slice A' up.length c'] 25)).alloc (.cells #[.bool false,.int .i64 0,.int .i64 0] 73)) (w.heap.size+1) 73 #[.bool false,.int .i64 0,.int .i64 0]:=by
  have:=Blk.new (w.alloc (.cells #[.slice A names.length c,.slice A' up.length c'] 25)) 73 #[.bool false,.int .i64 0,.int .i64 0]
  simpa using this
 have hth:=rThing_tree (labs:=labs) (rule:=rule) (R:=R) (L:=L) cr cl hrl z1 z3 t sort [] [] _ ht (by simp [hp]) ((hlat.below hb0).more hb0.size) ((hr.below hb0).more hb0.size) ⟨(hl.below hb0).more hb0.size,(of_decide_eq_true z3).1,(of_decide_eq_true z3).2⟩ (rule.length - 1) (by simp; omega)
 have hv:Jg.val (jops up labs) rule=Jg.ev (jops up labs) t:=by rw [← hp]; exact Jg.val_tree ht
 rw [← hv,show ((rule.length - 1:Nat):Int)=(rule.length:Int) - 1 by omega] at hth
 generalize Jg.val (jops up labs) rule=x at hth ⊢
 have hrp:1≤rule.length:=by omega
 have HTH:=η hth
 have HB0:=η hb0
 have HP0:=η p0
 unfold GaveV at HTH ⊢
 clear hth hb0 p0 hlat hr hl hok z1 z2 z3 ht hp hpos hlen hv
 generalize Jg.Is x=a at *
 generalize Jg.A x=b at *
 go_enter Tryz.func27,Tryz.ntmps27
 go_wp2_with (fail)
 refine HTH.out.mono ?_
 rintro e w1 ⟨rfl,hb1⟩
 have hp1:=HP0.out.below hb1 HP0.out.lt
 have HB1:=η (HB0.out.trans (hb1.mono (by simp; omega)))
 have f0:=hp1.frozen 0
 have f1:=hp1.frozen 1
 have f2:=hp1.frozen 2
 have c0:=hp1.cell 0
 have c1:=hp1.cell 1
 have c2:=hp1.cell 2
 have HP1:=η hp1
 clear hb1 hp1
 go_wp2
 obtain ⟨W5,hW5⟩:∃ W5,((w1.setCell ⟨w.heap.size+1,0,none⟩ (.bool a)).setCell ⟨w.heap.size+1,1,none⟩ (.int .i64 (b:Int))).setCell ⟨w.heap.size+1,2,none⟩ (.int .i64 0)=W5:=⟨_,rfl⟩
 have hb5:Below w.heap.size w W5:=hW5 ▸ ((HB1.out.setCell (p:=⟨w.heap.size+1,0,none⟩) (by simp) _).setCell (p:=⟨w.heap.size+1,1,none⟩) (by simp) _).setCell (p:=⟨w.heap.size+1,2,none⟩) (by simp) _
 have hp5:Blk W5 (w.heap.size+1) 73 #[.bool a,.int .i64 (b:Int),.int .i64 0]:=hW5 ▸ ((HP1.out.set_ 0 _).set_ 1 _).set_ 2 _
 rw [hW5]
 clear hW5 c0 c1 c2 f0 f1 f2
 have c0:=hp5.cell 0
 have c1:=hp5.cell 1
 have c2:=hp5.cell 2
 exact bodyPost_ret (v:=.agg #[.bool a,.int .i64 (b:Int),.int .i64 0]) (by simp [results,Tryz.results27,go_sem,c0,c1,c2]) rfl ⟨rfl,hb5⟩
end Go.Proofs.YtefimimcfkdoiaaGreatDoor
