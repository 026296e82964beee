import Derived.Test.YtefimimcfkdoiaaGreatDoorGStpS
import Derived.Test.YtefimimcfkdoiaaGreatDoorGCodE
import Derived.Test.YtefimimcfkdoiaaGreatDoorGStpR
import Derived.Test.YtefimimcfkdoiaaGreatDoorGLawO
set_option maxHeartbeats 64000000
set_option maxRecDepth 100000
namespace Go.Proofs.YtefimimcfkdoiaaGreatDoor
open Go.RowKit Go.Shelf Go.Sort
attribute [local go_sem] Oper.semAt_some
theorem right_small10 {k:Nat} {s:St.State} (h:St.rightB k s=true):SmallS s:=by
 unfold St.rightB at h
 simp only [Bool.and_eq_true] at h
 obtain ⟨⟨⟨⟨r1,-⟩,⟨r3,-⟩⟩,⟨r4,-⟩⟩,⟨r5,-⟩⟩:=h
 unfold Cd.rightB at r1
 rw [Bool.and_eq_true] at r1
 have a:=of_decide_eq_true r1.1
 have b:=of_decide_eq_true r3
 have c:=of_decide_eq_true r4
 have d:=of_decide_eq_true r5
 exact ⟨by omega,by omega,by omega,by omega⟩
theorem sameB_refl10 (s:St.State):sameB s s=true:=sameB_iff.2 rfl
structure Law10 (w:World) (x0 x1:Value) (names:List ByteArray) (up:List Nat) (tv:Value) (l:List Tb.PR) (cs:Array Value) (W:World):Prop where
 one:One w x0 x1 names up W
 tb:Blk W (w.heap.size+1) 28 #[tv]
 ta:IsTab W W.heap.size tv l
 st:Blk W (w.heap.size+2) 35 cs
theorem Law10.next {w:World} {x0 x1:Value} {names:List ByteArray} {up:List Nat} {tv:Value} {l:List Tb.PR} {cs:Array Value} {W W':World} (h:Law10 w x0 x1 names up tv l cs W) (hb:Below W.heap.size W W'):Law10 w x0 x1 names up tv l cs W' :=
 ⟨one_stable _ _ _ _ _ _ _ h.one hb,h.tb.below hb h.tb.lt,(h.ta.below hb).more hb.size,h.st.below hb h.st.lt⟩
theorem Oned.told {o:St.State × Nat × Nat} {w:World} {e:Ending} {w':World} (h:Oned o w e w') :
  ∃ A1 n1 d1 A2 n2 d2 A3 n3 d3 A4 n4 d4,e=.returned (.tuple #[.agg #[.int .i64 o.1.pc.v,.int .i64 o.1.pc.l,.slice A1 n1 d1,.slice A2 n2 d2,.slice A3 n3 d3,.slice A4 n4 d4],.int .i64 (o.2.1:Int),.int .i64 (o.2.2:Int)]) ∧
   o.1.code.length=n1∧o.1.mem.length=n2∧o.1.stack.length=n3∧o.1.out.length=n4∧n1≤d1∧n2≤d2∧n3≤d3∧n4≤d4 ∧
   Row w' w'.heap.size A1 (icells o.1.code)∧Row w' w'.heap.size A4 (fcells avs o.1.out) ∧
   IsSt w' w'.heap.size (.agg #[.int .i64 o.1.pc.v,.int .i64 o.1.pc.l,.slice A1 n1 d1,.slice A2 n2 d2,.slice A3 n3 d3,.slice A4 n4 d4]) o.1∧Below w.heap.size w w':=by
 obtain ⟨a,b,A1,n1,d1,A2,n2,d2,A3,n3,d3,A4,n4,d4,rfl,hv,hc,hb⟩:=h
 obtain ⟨_,_,q1⟩:=ownT_slice hc.code
 obtain ⟨_,_,q2⟩:=ownT_slice hc.mem
 obtain ⟨_,_,q3⟩:=ownT_slice hc.stack
 obtain ⟨_,_,q4⟩:=ownT_slice hc.out
 have hi:=hc.isSt
 rw [← hv] at hi
 unfold stv at hv
 simp only [Value.agg.injEq,Array.mk.injEq,List.cons.injEq,Value.int.injEq,true_and,and_true] at hv
 obtain ⟨rfl,rfl⟩:=hv
 injection q1 with q1a q1 q1b
 injection q2 with q2a q2 q2b
 injection q3 with q3a q3 q3b
 injection q4 with q4a q4 q4b
 subst q1 q2 q3 q4
 have r1:=ownT_row hc.code
 have r4:=ownT_row hc.out
 rw [← icells_f] at r1
 exact ⟨A1,_,d1,A2,_,d2,A3,_,d3,A4,_,d4,rfl,rfl,rfl,rfl,rfl,r1.2,(ownT_row hc.mem).2,(ownT_row hc.stack).2,r4.2,r1.1,r4.1,hi,hb⟩
theorem one_cases {names:List ByteArray} {up:List Nat} {l:List Tb.PR} {s o1:St.State} {o2 o3:Nat} (h:oneR names up l s=(o1,o2,o3)) :
  (o3≠0∧o1=St.zero∧o2=0∧chk10 names up l s≠0)∨(o3=0∧chk10 names up l s=0∧Sp.step up.length (bottomR names up:Nat) (rwT up l) s=(o1,o2)):=by
 unfold oneR at h
 split at h
 ·rename_i h0
  injection h with h1 h2
  injection h2 with h2 h3
  exact .inr ⟨h3.symm,h0,by rw [← h1,← h2]⟩
 ·rename_i h0
  injection h with h1 h2
  injection h2 with h2 h3
  exact .inl ⟨by rw [← h3]; exact h0,h1.symm,h2.symm,h0⟩
theorem one_stays {names:List ByteArray} {up:List Nat} {l:List Tb.PR} {s o1:St.State} {o2:Nat} (h0:chk10 names up l s=0) (h:Sp.step up.length (bottomR names up:Nat) (rwT up l) s=(o1,o2)) :
  pubS names up o1=true∧SmallS o1∧o1.code=s.code∧o1.mem.length=s.mem.length∧o1.out.take s.out.length=s.out∧s.out.length≤o1.out.length∧(o2≠0→o1=s∧o2≤3)∧o1.out.length≤s.out.length+1∧o1.stack.length≤s.stack.length+1:=by
 obtain ⟨z1,-,z4⟩:=chk_zero h0
 have hs:=Sp.step_stays z4 (bottomR names up:Nat) (rwT up l)
 rw [h] at hs
 refine ⟨?_,right_small10 hs.right,hs.code,hs.mem,hs.out.1,hs.out.2,hs.same,hs.more.1,hs.more.2⟩
 unfold pubS
 rw [decide_eq_true z1,hs.right]
 rfl
end Go.Proofs.YtefimimcfkdoiaaGreatDoor
