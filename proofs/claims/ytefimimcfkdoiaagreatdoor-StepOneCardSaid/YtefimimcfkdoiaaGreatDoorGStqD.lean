import Derived.Test.YtefimimcfkdoiaaGreatDoorGStpD
import Derived.Test.YtefimimcfkdoiaaGreatDoorGJudB
set_option maxHeartbeats 64000000
set_option maxRecDepth 100000
namespace Go.Proofs.YtefimimcfkdoiaaGreatDoor
open Go.RowKit Go.Shelf
attribute [local go_sem] Oper.semAt_some
namespace Sp
section
variable {bot:Int} {s:St.State} {x:Cd.In} {y z:St.Slot} {n:Nd}
theorem atoms_all {l:List St.Slot} {T:Nat} (h:∀ j,j < T→atomAt l j=true):atomsTo l 0 T=true:=by
 unfold atomsTo
 rw [List.all_eq_true]
 intro j hj
 rw [Nat.zero_add]
 exact h j (List.mem_range.1 hj)
theorem atoms_no {l:List St.Slot} {f T j:Nat} (hj:j < T) (h:atomAt l (f+j)=false):atomsTo l f T=false:=by
 unfold atomsTo
 rw [List.all_eq_false]
 exact ⟨j,List.mem_range.2 hj,by rw [h]; decide⟩
theorem atom_len {l:List St.Slot} {j:Nat} (h:atomAt l j=true):j+1≤l.length:=by
 unfold atomAt at h
 rw [Bool.and_eq_true] at h
 exact of_decide_eq_true h.1
theorem needs_t0 (h:takesN x=0):needs bot s x=more s x ⟨true,slot0,slot0,slot0,bot,bot,bot,s.stack.length⟩:=needs_0 h
theorem needs_t1 (h:takesN x=1) (ha:atomsTo s.stack 0 1=true) (hy:s.stack[s.stack.length - 1]? = some y):needs bot s x=more s x ⟨true,y,slot0,slot0,y.l,bot,bot,s.stack.length - 1⟩:=by
 have e1:s.stack.getD (s.stack.length - 1) slot0=y:=by rw [List.getD_eq_getElem?_getD,hy]; rfl
 unfold needs
 rw [h,if_pos ha,e1]
 rfl
theorem needs_t2 (h:takesN x=2) (ha:atomsTo s.stack 0 2=true) (hy:s.stack[s.stack.length - 1]? = some y) (hz:s.stack[s.stack.length - 2]? = some z):needs bot s x=more s x ⟨true,y,z,slot0,y.l,z.l,bot,s.stack.length - 2⟩:=by
 have e1:s.stack.getD (s.stack.length - 1) slot0=y:=by rw [List.getD_eq_getElem?_getD,hy]; rfl
 have e2:s.stack.getD (s.stack.length - 2) slot0=z:=by rw [List.getD_eq_getElem?_getD,hz]; rfl
 unfold needs
 rw [h,if_pos ha,e1,e2]
 rfl
theorem more_1 (h:x.op=1):more s x n = { n with one:=x.l }:=by unfold more; rw [if_pos h]
theorem more_bad (h:x.op=5∨x.op=6) (hb:n.a.v < 0∨(s.mem.length:Int)≤n.a.v):more s x n=nd0:=by unfold more; rw [if_neg (by omega),if_pos h,if_pos hb]
theorem more_5 (h:x.op=5) (hb:¬ (n.a.v < 0∨(s.mem.length:Int)≤n.a.v)):more s x n = { n with two:=(s.mem.getD n.a.v.toNat ⟨0,0⟩).l }:=by unfold more; rw [if_neg (by omega),if_pos (.inl h),if_neg hb,if_pos h]
theorem more_6 (h:x.op=6) (hb:¬ (n.a.v < 0∨(s.mem.length:Int)≤n.a.v)):more s x n = { n with three:=(s.mem.getD n.a.v.toNat ⟨0,0⟩).l }:=by unfold more; rw [if_neg (by omega),if_pos (.inr h),if_neg hb,if_neg (by omega)]
theorem more_far (h:x.op=7∨x.op=9) (hb:n.a.v < 0∨12 < n.a.v):more s x n=nd0:=by unfold more; rw [if_neg (by omega),if_neg (by omega),if_pos h,if_pos hb]
theorem more_79 (h:x.op=7∨x.op=9) (hb:¬ (n.a.v < 0∨12 < n.a.v)) (ha:atomsTo s.stack 1 x.n.toNat=true):more s x n=n:=by unfold more; rw [if_neg (by omega),if_neg (by omega),if_pos h,if_neg hb,if_pos ha]
theorem more_args (h:x.op=7∨x.op=9) (hb:¬ (n.a.v < 0∨12 < n.a.v)) (ha:atomsTo s.stack 1 x.n.toNat=false):more s x n=nd0:=by unfold more; rw [if_neg (by omega),if_neg (by omega),if_pos h,if_neg hb,if_neg (by rw [ha]; decide)]
theorem more_10n (h:x.op=10) (hf:frameAt s.stack n.below=none):more s x n=nd0:=by unfold more; rw [if_neg (by omega),if_neg (by omega),if_neg (by omega),if_pos h,hf]
theorem more_10s {i:Nat} (h:x.op=10) (hf:frameAt s.stack n.below=some i) (hr:s.stack[i]? = some z):more s x n = { n with r:=z,two:=z.l,below:=i }:=by
 have e1:s.stack.getD i slot0=z:=by rw [List.getD_eq_getElem?_getD,hr]; rfl
 unfold more; rw [if_neg (by omega),if_neg (by omega),if_neg (by omega),if_pos h,hf]
 dsimp only
 rw [e1]
theorem more_no (h1:¬ x.op=1) (h5:¬ x.op=5) (h6:¬ x.op=6) (h7:¬ x.op=7) (h9:¬ x.op=9) (h10:¬ x.op=10):more s x n=n:=by unfold more; rw [if_neg h1,if_neg (by omega),if_neg (by omega),if_neg h10]
end
end Sp
def nv10 (n:Sp.Nd):Value:=.agg #[.bool n.is,.bool n.a.ret,.int .i64 n.a.v,.int .i64 n.a.l,.bool n.b.ret,.int .i64 n.b.v,.int .i64 n.b.l,.bool n.r.ret,.int .i64 n.r.v,.int .i64 n.r.l,.int .i64 n.one,.int .i64 n.two,.int .i64 n.three,.int .i64 (n.below:Int)]
section
variable {W w:World} {g B:Nat} {t:TypeId} {u0 u1 u2 u3 u4 u5 u6 u7 u8 u9 u10 u11 u12 u13:Value}
theorem bset14 {cs cs':Array Value} (h:Blk W g t cs) (i:Nat) (v:Value) (e:cs.setIfInBounds i v=cs'):Blk (W.setCell ⟨g,i,none⟩ v) g t cs':=e ▸ h.set_ i v
theorem n14_steps (h:Hid (Blk W g t #[u0,u1,u2,u3,u4,u5,u6,u7,u8,u9,u10,u11,u12,u13])) (v0 v1 v2 v3 v4 v5 v6 v7 v8 v9 v10 v11 v12 v13:Value):∃ X1 X2 X3 X4 X5 X6 X7 X8 X9 X10 X11 X12 X13 X14,W.setCell ⟨g,0,none⟩ v0=X1∧X1.setCell ⟨g,1,none⟩ v1=X2∧X2.setCell ⟨g,2,none⟩ v2=X3∧X3.setCell ⟨g,3,none⟩ v3=X4∧X4.setCell ⟨g,4,none⟩ v4=X5∧X5.setCell ⟨g,5,none⟩ v5=X6∧X6.setCell ⟨g,6,none⟩ v6=X7∧X7.setCell ⟨g,7,none⟩ v7=X8∧X8.setCell ⟨g,8,none⟩ v8=X9∧X9.setCell ⟨g,9,none⟩ v9=X10∧X10.setCell ⟨g,10,none⟩ v10=X11∧X11.setCell ⟨g,11,none⟩ v11=X12∧X12.setCell ⟨g,12,none⟩ v12=X13∧X13.setCell ⟨g,13,none⟩ v13=X14∧W.frozen? ⟨g,0,none⟩=false∧X1.frozen? ⟨g,1,none⟩=false∧X2.frozen? ⟨g,2,none⟩=false∧X3.frozen? ⟨g,3,none⟩=false∧X4.frozen? ⟨g,4,none⟩=false∧X5.frozen? ⟨g,5,none⟩=false∧X6.frozen? ⟨g,6,none⟩=false∧X7.frozen? ⟨g,7,none⟩=false∧X8.frozen? ⟨g,8,none⟩=false∧X9.frozen? ⟨g,9,none⟩=false∧X10.frozen? ⟨g,10,none⟩=false∧X11.frozen? ⟨g,11,none⟩=false∧X12.frozen? ⟨g,12,none⟩=false∧X13.frozen? ⟨g,13,none⟩=false∧W.cell? ⟨g,0,none⟩=some u0∧X1.cell? ⟨g,1,none⟩=some u1∧X2.cell? ⟨g,2,none⟩=some u2∧X3.cell? ⟨g,3,none⟩=some u3∧X4.cell? ⟨g,4,none⟩=some u4∧X5.cell? ⟨g,5,none⟩=some u5∧X6.cell? ⟨g,6,none⟩=some u6∧X7.cell? ⟨g,7,none⟩=some u7∧X8.cell? ⟨g,8,none⟩=some u8∧X9.cell? ⟨g,9,none⟩=some u9∧X10.cell? ⟨g,10,none⟩=some u10∧X11.cell? ⟨g,11,none⟩=some u11∧X12.cell? ⟨g,12,none⟩=some u12∧X13.cell? ⟨g,13,none⟩=some u13∧Hid (Blk X14 g t #[v0,v1,v2,v3,v4,v5,v6,v7,v8,v9,v10,v11,v12,v13])∧Kept g g W X14:=by
 have h0:=h.out
 have k0:=Kept.refl g g W
 obtain ⟨X1,e0⟩:∃ X,W.setCell ⟨g,0,none⟩ v0=X:=⟨_,rfl⟩
 have h1:Blk X1 g t #[v0,u1,u2,u3,u4,u5,u6,u7,u8,u9,u10,u11,u12,u13]:=e0 ▸ bset14 h0 0 v0 rfl
 have k1:Kept g g W X1:=e0 ▸ k0.set_ (p:=⟨g,0,none⟩) (.inl rfl) v0
 obtain ⟨X2,e1⟩:∃ X,X1.setCell ⟨g,1,none⟩ v1=X:=⟨_,rfl⟩
 have h2:Blk X2 g t #[v0,v1,u2,u3,u4,u5,u6,u7,u8,u9,u10,u11,u12,u13]:=e1 ▸ bset14 h1 1 v1 rfl
 have k2:Kept g g W X2:=e1 ▸ k1.set_ (p:=⟨g,1,none⟩) (.inl rfl) v1
 obtain ⟨X3,e2⟩:∃ X,X2.setCell ⟨g,2,none⟩ v2=X:=⟨_,rfl⟩
 have h3:Blk X3 g t #[v0,v1,v2,u3,u4,u5,u6,u7,u8,u9,u10,u11,u12,u13]:=e2 ▸ bset14 h2 2 v2 rfl
 have k3:Kept g g W X3:=e2 ▸ k2.set_ (p:=⟨g,2,none⟩) (.inl rfl) v2
 obtain ⟨X4,e3⟩:∃ X,X3.setCell ⟨g,3,none⟩ v3=X:=⟨_,rfl⟩
 have h4:Blk X4 g t #[v0,v1,v2,v3,u4,u5,u6,u7,u8,u9,u10,u11,u12,u13]:=e3 ▸ bset14 h3 3 v3 rfl
 have k4:Kept g g W X4:=e3 ▸ k3.set_ (p:=⟨g,3,none⟩) (.inl rfl) v3
 obtain ⟨X5,e4⟩:∃ X,X4.setCell ⟨g,4,none⟩ v4=X:=⟨_,rfl⟩
 have h5:Blk X5 g t #[v0,v1,v2,v3,v4,u5,u6,u7,u8,u9,u10,u11,u12,u13]:=e4 ▸ bset14 h4 4 v4 rfl
 have k5:Kept g g W X5:=e4 ▸ k4.set_ (p:=⟨g,4,none⟩) (.inl rfl) v4
 obtain ⟨X6,e5⟩:∃ X,X5.setCell ⟨g,5,none⟩ v5=X:=⟨_,rfl⟩
 have h6:Blk X6 g t #[v0,v1,v2,v3,v4,v5,u6,u7,u8,u9,u10,u11,u12,u13]:=e5 ▸ bset14 h5 5 v5 rfl
 have k6:Kept g g W X6:=e5 ▸ k5.set_ (p:=⟨g,5,none⟩) (.inl rfl) v5
 obtain ⟨X7,e6⟩:∃ X,X6.setCell ⟨g,6,none⟩ v6=X:=⟨_,rfl⟩
 have h7:Blk X7 g t #[v0,v1,v2,v3,v4,v5,v6,u7,u8,u9,u10,u11,u12,u13]:=e6 ▸ bset14 h6 6 v6 rfl
 have k7:Kept g g W X7:=e6 ▸ k6.set_ (p:=⟨g,6,none⟩) (.inl rfl) v6
 obtain ⟨X8,e7⟩:∃ X,X7.setCell ⟨g,7,none⟩ v7=X:=⟨_,rfl⟩
 have h8:Blk X8 g t #[v0,v1,v2,v3,v4,v5,v6,v7,u8,u9,u10,u11,u12,u13]:=e7 ▸ bset14 h7 7 v7 rfl
 have k8:Kept g g W X8:=e7 ▸ k7.set_ (p:=⟨g,7,none⟩) (.inl rfl) v7
 obtain ⟨X9,e8⟩:∃ X,X8.setCell ⟨g,8,none⟩ v8=X:=⟨_,rfl⟩
 have h9:Blk X9 g t #[v0,v1,v2,v3,v4,v5,v6,v7,v8,u9,u10,u11,u12,u13]:=e8 ▸ bset14 h8 8 v8 rfl
 have k9:Kept g g W X9:=e8 ▸ k8.set_ (p:=⟨g,8,none⟩) (.inl rfl) v8
 obtain ⟨X10,e9⟩:∃ X,X9.setCell ⟨g,9,none⟩ v9=X:=⟨_,rfl⟩
 have h10:Blk X10 g t #[v0,v1,v2,v3,v4,v5,v6,v7,v8,v9,u10,u11,u12,u13]:=e9 ▸ bset14 h9 9 v9 rfl
 have k10:Kept g g W X10:=e9 ▸ k9.set_ (p:=⟨g,9,none⟩) (.inl rfl) v9
 obtain ⟨X11,e10⟩:∃ X,X10.setCell ⟨g,10,none⟩ v10=X:=⟨_,rfl⟩
 have h11:Blk X11 g t #[v0,v1,v2,v3,v4,v5,v6,v7,v8,v9,v10,u11,u12,u13]:=e10 ▸ bset14 h10 10 v10 rfl
 have k11:Kept g g W X11:=e10 ▸ k10.set_ (p:=⟨g,10,none⟩) (.inl rfl) v10
 obtain ⟨X12,e11⟩:∃ X,X11.setCell ⟨g,11,none⟩ v11=X:=⟨_,rfl⟩
 have h12:Blk X12 g t #[v0,v1,v2,v3,v4,v5,v6,v7,v8,v9,v10,v11,u12,u13]:=e11 ▸ bset14 h11 11 v11 rfl
 have k12:Kept g g W X12:=e11 ▸ k11.set_ (p:=⟨g,11,none⟩) (.inl rfl) v11
 obtain ⟨X13,e12⟩:∃ X,X12.setCell ⟨g,12,none⟩ v12=X:=⟨_,rfl⟩
 have h13:Blk X13 g t #[v0,v1,v2,v3,v4,v5,v6,v7,v8,v9,v10,v11,v12,u13]:=e12 ▸ bset14 h12 12 v12 rfl
 have k13:Kept g g W X13:=e12 ▸ k12.set_ (p:=⟨g,12,none⟩) (.inl rfl) v12
 obtain ⟨X14,e13⟩:∃ X,X13.setCell ⟨g,13,none⟩ v13=X:=⟨_,rfl⟩
 have h14:Blk X14 g t #[v0,v1,v2,v3,v4,v5,v6,v7,v8,v9,v10,v11,v12,v13]:=e13 ▸ bset14 h13 13 v13 rfl
 have k14:Kept g g W X14:=e13 ▸ k13.set_ (p:=⟨g,13,none⟩) (.inl rfl) v13
 exact ⟨X1,X2,X3,X4,X5,X6,X7,X8,X9,X10,X11,X12,X13,X14,e0,e1,e2,e3,e4,e5,e6,e7,e8,e9,e10,e11,e12,e13,h0.frozen 0,h1.frozen 1,h2.frozen 2,h3.frozen 3,h4.frozen 4,h5.frozen 5,h6.frozen 6,h7.frozen 7,h8.frozen 8,h9.frozen 9,h10.frozen 10,h11.frozen 11,h12.frozen 12,h13.frozen 13,h0.cell 0,h1.cell 1,h2.cell 2,h3.cell 3,h4.cell 4,h5.cell 5,h6.cell 6,h7.cell 7,h8.cell 8,h9.cell 9,h10.cell 10,h11.cell 11,h12.cell 12,h13.cell 13,η h14,k14⟩
theorem cel14q (h:Hid (Blk W g t #[u0,u1,u2,u3,u4,u5,u6,u7,u8,u9,u10,u11,u12,u13])):W.cell? ⟨g,0,none⟩=some u0∧W.cell? ⟨g,1,none⟩=some u1∧W.cell? ⟨g,2,none⟩=some u2∧W.cell? ⟨g,3,none⟩=some u3∧W.cell? ⟨g,4,none⟩=some u4∧W.cell? ⟨g,5,none⟩=some u5∧W.cell? ⟨g,6,none⟩=some u6∧W.cell? ⟨g,7,none⟩=some u7∧W.cell? ⟨g,8,none⟩=some u8∧W.cell? ⟨g,9,none⟩=some u9∧W.cell? ⟨g,10,none⟩=some u10∧W.cell? ⟨g,11,none⟩=some u11∧W.cell? ⟨g,12,none⟩=some u12∧W.cell? ⟨g,13,none⟩=some u13:=⟨h.out.cell 0,h.out.cell 1,h.out.cell 2,h.out.cell 3,h.out.cell 4,h.out.cell 5,h.out.cell 6,h.out.cell 7,h.out.cell 8,h.out.cell 9,h.out.cell 10,h.out.cell 11,h.out.cell 12,h.out.cell 13⟩
theorem put3_14_1q {v0 v1 v2:Value} {X:World} (h:Hid (Blk W g t #[u0,u1,u2,u3,u4,u5,u6,u7,u8,u9,u10,u11,u12,u13])) (e:(((W.setCell ⟨g,1,none⟩ v0).setCell ⟨g,2,none⟩ v1).setCell ⟨g,3,none⟩ v2)=X):Hid (Blk X g t #[u0,v0,v1,v2,u4,u5,u6,u7,u8,u9,u10,u11,u12,u13]):=η (e ▸ bset14 (bset14 (bset14 h.out 1 v0 (cs':=#[u0,v0,u2,u3,u4,u5,u6,u7,u8,u9,u10,u11,u12,u13]) rfl) 2 v1 (cs':=#[u0,v0,v1,u3,u4,u5,u6,u7,u8,u9,u10,u11,u12,u13]) rfl) 3 v2 rfl)
theorem kp3_1q {v0 v1 v2:Value} {X:World} (e:(((W.setCell ⟨g,1,none⟩ v0).setCell ⟨g,2,none⟩ v1).setCell ⟨g,3,none⟩ v2)=X):Kept g g W X:=e ▸ (((Kept.refl g g W).set_ (p:=⟨g,1,none⟩) (.inl rfl) _).set_ (p:=⟨g,2,none⟩) (.inl rfl) _).set_ (p:=⟨g,3,none⟩) (.inl rfl) _
theorem put3_14_4q {v0 v1 v2:Value} {X:World} (h:Hid (Blk W g t #[u0,u1,u2,u3,u4,u5,u6,u7,u8,u9,u10,u11,u12,u13])) (e:(((W.setCell ⟨g,4,none⟩ v0).setCell ⟨g,5,none⟩ v1).setCell ⟨g,6,none⟩ v2)=X):Hid (Blk X g t #[u0,u1,u2,u3,v0,v1,v2,u7,u8,u9,u10,u11,u12,u13]):=η (e ▸ bset14 (bset14 (bset14 h.out 4 v0 (cs':=#[u0,u1,u2,u3,v0,u5,u6,u7,u8,u9,u10,u11,u12,u13]) rfl) 5 v1 (cs':=#[u0,u1,u2,u3,v0,v1,u6,u7,u8,u9,u10,u11,u12,u13]) rfl) 6 v2 rfl)
theorem kp3_4q {v0 v1 v2:Value} {X:World} (e:(((W.setCell ⟨g,4,none⟩ v0).setCell ⟨g,5,none⟩ v1).setCell ⟨g,6,none⟩ v2)=X):Kept g g W X:=e ▸ (((Kept.refl g g W).set_ (p:=⟨g,4,none⟩) (.inl rfl) _).set_ (p:=⟨g,5,none⟩) (.inl rfl) _).set_ (p:=⟨g,6,none⟩) (.inl rfl) _
theorem put3_14_7q {v0 v1 v2:Value} {X:World} (h:Hid (Blk W g t #[u0,u1,u2,u3,u4,u5,u6,u7,u8,u9,u10,u11,u12,u13])) (e:(((W.setCell ⟨g,7,none⟩ v0).setCell ⟨g,8,none⟩ v1).setCell ⟨g,9,none⟩ v2)=X):Hid (Blk X g t #[u0,u1,u2,u3,u4,u5,u6,v0,v1,v2,u10,u11,u12,u13]):=η (e ▸ bset14 (bset14 (bset14 h.out 7 v0 (cs':=#[u0,u1,u2,u3,u4,u5,u6,v0,u8,u9,u10,u11,u12,u13]) rfl) 8 v1 (cs':=#[u0,u1,u2,u3,u4,u5,u6,v0,v1,u9,u10,u11,u12,u13]) rfl) 9 v2 rfl)
theorem kp3_7q {v0 v1 v2:Value} {X:World} (e:(((W.setCell ⟨g,7,none⟩ v0).setCell ⟨g,8,none⟩ v1).setCell ⟨g,9,none⟩ v2)=X):Kept g g W X:=e ▸ (((Kept.refl g g W).set_ (p:=⟨g,7,none⟩) (.inl rfl) _).set_ (p:=⟨g,8,none⟩) (.inl rfl) _).set_ (p:=⟨g,9,none⟩) (.inl rfl) _
theorem put1_14_0q {v:Value} {X:World} (h:Hid (Blk W g t #[u0,u1,u2,u3,u4,u5,u6,u7,u8,u9,u10,u11,u12,u13])) (e:W.setCell ⟨g,0,none⟩ v=X):Hid (Blk X g t #[v,u1,u2,u3,u4,u5,u6,u7,u8,u9,u10,u11,u12,u13]):=η (e ▸ h.out.set_ 0 _)
theorem put1_14_10q {v:Value} {X:World} (h:Hid (Blk W g t #[u0,u1,u2,u3,u4,u5,u6,u7,u8,u9,u10,u11,u12,u13])) (e:W.setCell ⟨g,10,none⟩ v=X):Hid (Blk X g t #[u0,u1,u2,u3,u4,u5,u6,u7,u8,u9,v,u11,u12,u13]):=η (e ▸ h.out.set_ 10 _)
theorem put1_14_11q {v:Value} {X:World} (h:Hid (Blk W g t #[u0,u1,u2,u3,u4,u5,u6,u7,u8,u9,u10,u11,u12,u13])) (e:W.setCell ⟨g,11,none⟩ v=X):Hid (Blk X g t #[u0,u1,u2,u3,u4,u5,u6,u7,u8,u9,u10,v,u12,u13]):=η (e ▸ h.out.set_ 11 _)
theorem put1_14_12q {v:Value} {X:World} (h:Hid (Blk W g t #[u0,u1,u2,u3,u4,u5,u6,u7,u8,u9,u10,u11,u12,u13])) (e:W.setCell ⟨g,12,none⟩ v=X):Hid (Blk X g t #[u0,u1,u2,u3,u4,u5,u6,u7,u8,u9,u10,u11,v,u13]):=η (e ▸ h.out.set_ 12 _)
theorem put1_14_13q {v:Value} {X:World} (h:Hid (Blk W g t #[u0,u1,u2,u3,u4,u5,u6,u7,u8,u9,u10,u11,u12,u13])) (e:W.setCell ⟨g,13,none⟩ v=X):Hid (Blk X g t #[u0,u1,u2,u3,u4,u5,u6,u7,u8,u9,u10,u11,u12,v]):=η (e ▸ h.out.set_ 13 _)
theorem kp1q {i:Nat} {v:Value} {X:World} (e:W.setCell ⟨g,i,none⟩ v=X):Kept g g W X:=e ▸ (Kept.refl g g W).set_ (p:=⟨g,i,none⟩) (.inl rfl) _
theorem bk1q {X:World} {cs:Array Value} (h:Hid (Blk W g t cs)) (hb:Below W.heap.size W X):Hid (Blk X g t cs):=η (h.out.below hb h.out.lt)
theorem bk2q {X:World} {a:Nat} {cs:Array Value} (h:Hid (Blk W g t cs)) (hk:Kept a a W X) (hn:g≠a):Hid (Blk X g t cs):=η ((hk.block g h.out.lt hn hn).trans h.out)
theorem bw1q {X:World} (h:Hid (Below w.heap.size w W)) (hb:Below W.heap.size W X):Hid (Below w.heap.size w X):=η (h.out.trans (hb.mono h.out.size))
theorem bw2q {X:World} {a:Nat} (h:Hid (Below w.heap.size w W)) (hk:Kept a a W X) (ha:w.heap.size≤a):Hid (Below w.heap.size w X):=η (h.out.trans (hk.below h.out.size ha ha))
theorem cel3q (h:Hid (Blk W g t #[u0,u1,u2])):W.cell? ⟨g,0,none⟩=some u0∧W.cell? ⟨g,1,none⟩=some u1∧W.cell? ⟨g,2,none⟩=some u2:=⟨h.out.cell 0,h.out.cell 1,h.out.cell 2⟩
theorem cel6q (h:Hid (Blk W g t #[u0,u1,u2,u3,u4,u5])):W.cell? ⟨g,0,none⟩=some u0∧W.cell? ⟨g,1,none⟩=some u1∧W.cell? ⟨g,2,none⟩=some u2∧W.cell? ⟨g,3,none⟩=some u3∧W.cell? ⟨g,4,none⟩=some u4∧W.cell? ⟨g,5,none⟩=some u5:=⟨h.out.cell 0,h.out.cell 1,h.out.cell 2,h.out.cell 3,h.out.cell 4,h.out.cell 5⟩
end
end Go.Proofs.YtefimimcfkdoiaaGreatDoor
