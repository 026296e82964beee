import Derived.Test.YtjobifclmcdjcaaGreatDoorQZStqD
import Derived.Test.YtjobifclmcdjcaaGreatDoorQZStpK
set_option maxHeartbeats 64000000
set_option maxRecDepth 100000
namespace Go.Proofs.YtjobifclmcdjcaaGreatDoor
open Go.RowKit Go.Shelf
attribute [local go_sem] Oper.semAt_some
namespace Sp
section
variable {k:Nat} {bot:Int} {s:St.State} {x:Cd.In} {nd:Nd} {r:Rw}
def outS(s:St.State)(x:Cd.In)(nd:Nd)(res pc:Int):St.State:=⟨⟨nextT s x nd,pc⟩,s.code,memT s x nd res,stackT s x nd res,outT s x nd res⟩
theorem then_parts(h:needs bot s x=nd):thenT k bot s x r=if nd.is=false then(s,3) else if x.op=12 then(s,1) else if r.may [s.pc.l,nd.one,nd.two,nd.three]=false then(s,2) else
  if St.rightB k (outS s x nd (r.res [s.pc.l,nd.one,nd.two,nd.three]) (r.pc [s.pc.l,nd.one,nd.two,nd.three]))=true then(outS s x nd (r.res [s.pc.l,nd.one,nd.two,nd.three]) (r.pc [s.pc.l,nd.one,nd.two,nd.three]),0) else(s,3):=by
 unfold thenT outS;rw[h]
theorem z4x{n:Nd}(h:n.below≤s.stack.length):(more s x n).below≤s.stack.length:=by
 unfold more;split
 ·exact h
 ·split
  ·split
   ·exact Nat.zero_le _
   ·split<;>exact h
  ·split
   ·split
    ·exact Nat.zero_le _
    ·split
     ·exact h
     ·exact Nat.zero_le _
   ·split
    ·split
     ·exact Nat.zero_le _
     ·rename_i i hf
      exact Nat.le_trans (Nat.le_of_lt (frameAt_le _ hf).1) h
    ·exact h
theorem q79(h:atomsTo s.stack 0 (takesN x)=true):∃ n,needs bot s x=more s x n∧n.below=s.stack.length-takesN x :=
 ⟨_,by unfold needs;rw[if_pos h];rfl,rfl⟩
theorem needs_below:(needs bot s x).below≤s.stack.length:=by
 cases h:atomsTo s.stack 0 (takesN x) with
 | false=>rw[needs_not h];exact Nat.zero_le _
 | true =>
  obtain⟨n,e,hb⟩:=q79 (bot:=bot) h;rw[e];exact z4x (by omega)
theorem needs_args(h9:x.op=9)(_hn:0≤x.n)(hi:(needs bot s x).is=true):x.n.toNat≤(needs bot s x).below∧(needs bot s x).below<s.stack.length:=by
 have ht:takesN x=1:=by unfold takesN;rw[if_neg (by omega),h9];rfl
 cases h:atomsTo s.stack 0 (takesN x) with
 | false=>rw[needs_not h] at hi;cases hi
 | true =>
  obtain⟨n,e,hb⟩:=q79 (bot:=bot) h;rw[e] at hi ⊢;rw[ht] at h hb;unfold more at hi ⊢;rw[if_neg (by omega),if_neg (by omega),if_pos (.inr h9)] at hi ⊢;split at hi
  ·cases hi
  ·rename_i h2
   rw[if_neg h2];split at hi
   ·rename_i h3
    rw[if_pos h3];have hl:1≤s.stack.length:=by
     unfold atomsTo at h;have:=atom_len (List.all_eq_true.1 h 0 (by simp));omega
    refine⟨?_,by omega⟩;rcases Nat.eq_zero_or_pos x.n.toNat with h0|h0
    ·omega
    ·unfold atomsTo at h3;have:=atom_len (List.all_eq_true.1 h3 (x.n.toNat-1) (List.mem_range.2 (by omega)));omega
   ·cases hi
end
end Sp
def Lies10(n:Nat)(R:Option Addr)(rs:List Value)(A:Option Addr)(xs:List Value):Prop:=∀ ad,A=some ad→xs≠[]→(A=R∧rs≠[])∨n≤ad.block
theorem Lies10.same{n:Nat}{A:Option Addr}{xs:List Value}:Lies10 n A xs A xs:=fun _ _ h=>.inl ⟨rfl,h⟩
theorem Lies10.new{n:Nat}{R A:Option Addr}{rs ns xs:List Value}(h:Lies10 n none ns A xs):Lies10 n R rs A xs:=fun ad e hn=>by
 rcases h ad e hn with⟨h,-⟩|h
 ·rw[e] at h;cases h
 ·exact .inr h
def RG(w0 B b:Nat)(R:Option Addr)(rs:List Value)(W:World)(A:Option Addr)(xs:List Value):Prop:=xs≠[]→∃ ad,A=some ad∧ad.block<W.heap.size∧((ad.block<w0∧A=R∧rs≠[])∨(B≤ad.block∧ad.block≠b))∧∀ j u,xs[j]? = some u→W.cell? (ad.add j)=some u
theorem RG.row{w0 B b:Nat}{W:World}{R A:Option Addr}{rs xs:List Value}(h:RG w0 B b R rs W A xs):Row W W.heap.size A xs:=fun hn=>by
 obtain⟨ad,e,h1,-,h2⟩:=h hn
 exact⟨ad,e,h1,h2⟩
theorem RG.lies{w0 B b:Nat}{W:World}{R A:Option Addr}{rs xs:List Value}(h:RG w0 B b R rs W A xs)(hB:w0≤B):Lies10 w0 R rs A xs:=fun ad e hn=>by
 obtain⟨ad',e',-,h2,-⟩:=h hn
 rw[e] at e'
 injection e' with e'
 subst e'
 rcases h2 with⟨-,h⟩|⟨h,-⟩
 ·exact .inl h
 ·exact .inr (Nat.le_trans hB h)
theorem RG.keep{w0 B b:Nat}{W X:World}{R A:Option Addr}{rs xs:List Value}(h:RG w0 B b R rs W A xs)(hs:W.heap.size≤X.heap.size)(hk:∀ k,k<W.heap.size→(k<w0∨(B≤k∧k≠b))→X.heap[k]? = W.heap[k]?):RG w0 B b R rs X A xs:=fun hn=>by
 obtain⟨ad,e,h1,h2,h3⟩:=h hn
 refine⟨ad,e,Nat.lt_of_lt_of_le h1 hs,h2,fun j u hu=>?_⟩
 rw[←h3 j u hu]
 refine World.cell?_of_block ?_
 rw[q0a]
 exact hk _ h1 (h2.imp And.left id)
theorem rg1q{w0 B b:Nat}{W X:World}{R A:Option Addr}{rs xs:List Value}(h:Hid (RG w0 B b R rs W A xs))(hb:Below W.heap.size W X):Hid (RG w0 B b R rs X A xs):=η (h.out.keep hb.size fun k hk _=>hb.block k hk)
theorem rg2q{w0 B b a:Nat}{W X:World}{R A:Option Addr}{rs xs:List Value}(h:Hid (RG w0 B b R rs W A xs))(hk:Kept a a W X)(ha:w0≤a∧(a<B∨a=b)):Hid (RG w0 B b R rs X A xs):=η (h.out.keep hk.size fun k h1 h2=>hk.block k h1 (by omega) (by omega))
theorem RG.ofOwn{w0 B b base sz n c:Nat}{W:World}{e:TypeId}{R A:Option Addr}{rs xs:List Value}(h:W.ownsRow base e sz (.slice A n c) n xs)(hB:B≤base)(hb:b<base∨W.heap.size≤b):RG w0 B b R rs W A xs:=fun hn=>by
 obtain⟨ad,ea,h1,h2⟩:=(ownT_row h).1 hn
 have:=q2q h ad ea
 exact⟨ad,ea,h1,.inr ⟨by omega,by omega⟩,h2⟩
theorem RG.ofOld{w W:World}{B b:Nat}{A:Option Addr}{xs:List Value}(h:Row w w.heap.size A xs)(hb:Below w.heap.size w W):RG w.heap.size B b A xs W A xs:=fun hn=>by
 obtain⟨ad,ea,h1,h2⟩:=h hn
 obtain⟨ad',ea',h3,h4⟩:=(h.below hb) hn
 rw[ea] at ea'
 injection ea' with ea'
 subst ea'
 exact⟨ad,ea,Nat.lt_of_lt_of_le h1 hb.size,.inl ⟨h1,rfl,hn⟩,h4⟩
theorem RG.ofStack{w W:World}{B b Bc:Nat}{A sA:Option Addr}{L st:List St.Slot}(ho:(A=sA∧∃ k,L=st.take k)∨∀ ad,A=some ad→Bc≤ad.block)(hr:Row W W.heap.size A (fcells svs L))(hs:Row w w.heap.size sA (fcells svs st))(hb:Below w.heap.size w W)(hB:B≤Bc)(hne:b<Bc∨W.heap.size≤b):RG w.heap.size B b sA (fcells svs st) W A (fcells svs L):=by
 rcases ho with⟨rfl,k,rfl⟩|ho
 ·intro hn;obtain⟨ad,e,h1,h2,h3⟩:=RG.ofOld (B:=B) (b:=b) (show Row w w.heap.size A (fcells svs (st.take k)) by rw[←q1r q07];exact hs.take _) hb hn;refine⟨ad,e,h1,h2.imp (fun h=>⟨h.1,rfl,fun hst=>hn ?_⟩) id,h3⟩;rw[←q1r q07,hst,List.take_nil]
 ·intro hn;obtain⟨ad,ea,h1,h2⟩:=hr hn;have:=ho ad ea;exact⟨ad,ea,h1,.inr ⟨by omega,by omega⟩,h2⟩
section
variable {W w:World} {g B:Nat} {t:TypeId} {u0 u1 u2 u3 u4 u5 u6:Value}
theorem q19(h:Hid (Blk W g t #[u0,u1,u2,u3,u4,u5,u6]))(v0 v1 v2 v3 v4 v5 v6:Value):∃ X1 X2 X3 X4 X5 X6 X7,W.setCell ⟨g,0,none⟩ v0=X1∧X1.setCell ⟨g,1,none⟩ v1=X2∧X2.setCell ⟨g,2,none⟩ v2=X3∧X3.setCell ⟨g,3,none⟩ v3=X4∧X4.setCell ⟨g,4,none⟩ v4=X5∧X5.setCell ⟨g,5,none⟩ v5=X6∧X6.setCell ⟨g,6,none⟩ v6=X7∧W.frozen? ⟨g,0,none⟩=false∧X1.frozen? ⟨g,1,none⟩=false∧X2.frozen? ⟨g,2,none⟩=false∧X3.frozen? ⟨g,3,none⟩=false∧X4.frozen? ⟨g,4,none⟩=false∧X5.frozen? ⟨g,5,none⟩=false∧X6.frozen? ⟨g,6,none⟩=false∧W.cell? ⟨g,0,none⟩=some u0∧X1.cell? ⟨g,1,none⟩=some u1∧X2.cell? ⟨g,2,none⟩=some u2∧X3.cell? ⟨g,3,none⟩=some u3∧X4.cell? ⟨g,4,none⟩=some u4∧X5.cell? ⟨g,5,none⟩=some u5∧X6.cell? ⟨g,6,none⟩=some u6∧Hid (Blk X7 g t #[v0,v1,v2,v3,v4,v5,v6])∧Kept g g W X7:=by
 have h0:=h.out;have k0:=Kept.refl g g W;obtain⟨X1,e0⟩:∃ X,W.setCell ⟨g,0,none⟩ v0=X:=⟨_,rfl⟩;have h1:Blk X1 g t #[v0,u1,u2,u3,u4,u5,u6]:=e0▸q0h h0 0 v0 rfl;have k1:Kept g g W X1:=e0▸k0.set_ (p:=⟨g,0,none⟩) (.inl rfl) v0;obtain⟨X2,e1⟩:∃ X,X1.setCell ⟨g,1,none⟩ v1=X:=⟨_,rfl⟩;have h2:Blk X2 g t #[v0,v1,u2,u3,u4,u5,u6]:=e1▸q0h h1 1 v1 rfl;have k2:Kept g g W X2:=e1▸k1.set_ (p:=⟨g,1,none⟩) (.inl rfl) v1;obtain⟨X3,e2⟩:∃ X,X2.setCell ⟨g,2,none⟩ v2=X:=⟨_,rfl⟩;have h3:Blk X3 g t #[v0,v1,v2,u3,u4,u5,u6]:=e2▸q0h h2 2 v2 rfl;have k3:Kept g g W X3:=e2▸k2.set_ (p:=⟨g,2,none⟩) (.inl rfl) v2;obtain⟨X4,e3⟩:∃ X,X3.setCell ⟨g,3,none⟩ v3=X:=⟨_,rfl⟩;have h4:Blk X4 g t #[v0,v1,v2,v3,u4,u5,u6]:=e3▸q0h h3 3 v3 rfl;have k4:Kept g g W X4:=e3▸k3.set_ (p:=⟨g,3,none⟩) (.inl rfl) v3;obtain⟨X5,e4⟩:∃ X,X4.setCell ⟨g,4,none⟩ v4=X:=⟨_,rfl⟩;have h5:Blk X5 g t #[v0,v1,v2,v3,v4,u5,u6]:=e4▸q0h h4 4 v4 rfl;have k5:Kept g g W X5:=e4▸k4.set_ (p:=⟨g,4,none⟩) (.inl rfl) v4;obtain⟨X6,e5⟩:∃ X,X5.setCell ⟨g,5,none⟩ v5=X:=⟨_,rfl⟩;have h6:Blk X6 g t #[v0,v1,v2,v3,v4,v5,u6]:=e5▸q0h h5 5 v5 rfl;have k6:Kept g g W X6:=e5▸k5.set_ (p:=⟨g,5,none⟩) (.inl rfl) v5;obtain⟨X7,e6⟩:∃ X,X6.setCell ⟨g,6,none⟩ v6=X:=⟨_,rfl⟩;have h7:Blk X7 g t #[v0,v1,v2,v3,v4,v5,v6]:=e6▸q0h h6 6 v6 rfl;have k7:Kept g g W X7:=e6▸k6.set_ (p:=⟨g,6,none⟩) (.inl rfl) v6;exact⟨X1,X2,X3,X4,X5,X6,X7,e0,e1,e2,e3,e4,e5,e6,h0.frozen 0,h1.frozen 1,h2.frozen 2,h3.frozen 3,h4.frozen 4,h5.frozen 5,h6.frozen 6,h0.cell 0,h1.cell 1,h2.cell 2,h3.cell 3,h4.cell 4,h5.cell 5,h6.cell 6,η h7,k7⟩
theorem q34(h:Hid (Blk W g t #[u0,u1,u2,u3,u4,u5,u6])):W.cell? ⟨g,0,none⟩=some u0∧W.cell? ⟨g,1,none⟩=some u1∧W.cell? ⟨g,2,none⟩=some u2∧W.cell? ⟨g,3,none⟩=some u3∧W.cell? ⟨g,4,none⟩=some u4∧W.cell? ⟨g,5,none⟩=some u5∧W.cell? ⟨g,6,none⟩=some u6:=⟨h.out.cell 0,h.out.cell 1,h.out.cell 2,h.out.cell 3,h.out.cell 4,h.out.cell 5,h.out.cell 6⟩
end
section
variable {W w:World} {g B:Nat} {t:TypeId} {u0 u1 u2 u3 u4 u5:Value}
theorem z87(h:Hid (Blk W g t #[u0,u1,u2,u3,u4,u5]))(v0 v1 v2 v3 v4 v5:Value):∃ X1 X2 X3 X4 X5 X6,W.setCell ⟨g,0,none⟩ v0=X1∧X1.setCell ⟨g,1,none⟩ v1=X2∧X2.setCell ⟨g,2,none⟩ v2=X3∧X3.setCell ⟨g,3,none⟩ v3=X4∧X4.setCell ⟨g,4,none⟩ v4=X5∧X5.setCell ⟨g,5,none⟩ v5=X6∧W.frozen? ⟨g,0,none⟩=false∧X1.frozen? ⟨g,1,none⟩=false∧X2.frozen? ⟨g,2,none⟩=false∧X3.frozen? ⟨g,3,none⟩=false∧X4.frozen? ⟨g,4,none⟩=false∧X5.frozen? ⟨g,5,none⟩=false∧W.cell? ⟨g,0,none⟩=some u0∧X1.cell? ⟨g,1,none⟩=some u1∧X2.cell? ⟨g,2,none⟩=some u2∧X3.cell? ⟨g,3,none⟩=some u3∧X4.cell? ⟨g,4,none⟩=some u4∧X5.cell? ⟨g,5,none⟩=some u5∧Hid (Blk X6 g t #[v0,v1,v2,v3,v4,v5])∧Kept g g W X6:=by
 have h0:=h.out;have k0:=Kept.refl g g W;obtain⟨X1,e0⟩:∃ X,W.setCell ⟨g,0,none⟩ v0=X:=⟨_,rfl⟩;have h1:Blk X1 g t #[v0,u1,u2,u3,u4,u5]:=e0▸q0h h0 0 v0 rfl;have k1:Kept g g W X1:=e0▸k0.set_ (p:=⟨g,0,none⟩) (.inl rfl) v0;obtain⟨X2,e1⟩:∃ X,X1.setCell ⟨g,1,none⟩ v1=X:=⟨_,rfl⟩;have h2:Blk X2 g t #[v0,v1,u2,u3,u4,u5]:=e1▸q0h h1 1 v1 rfl;have k2:Kept g g W X2:=e1▸k1.set_ (p:=⟨g,1,none⟩) (.inl rfl) v1;obtain⟨X3,e2⟩:∃ X,X2.setCell ⟨g,2,none⟩ v2=X:=⟨_,rfl⟩;have h3:Blk X3 g t #[v0,v1,v2,u3,u4,u5]:=e2▸q0h h2 2 v2 rfl;have k3:Kept g g W X3:=e2▸k2.set_ (p:=⟨g,2,none⟩) (.inl rfl) v2;obtain⟨X4,e3⟩:∃ X,X3.setCell ⟨g,3,none⟩ v3=X:=⟨_,rfl⟩;have h4:Blk X4 g t #[v0,v1,v2,v3,u4,u5]:=e3▸q0h h3 3 v3 rfl;have k4:Kept g g W X4:=e3▸k3.set_ (p:=⟨g,3,none⟩) (.inl rfl) v3;obtain⟨X5,e4⟩:∃ X,X4.setCell ⟨g,4,none⟩ v4=X:=⟨_,rfl⟩;have h5:Blk X5 g t #[v0,v1,v2,v3,v4,u5]:=e4▸q0h h4 4 v4 rfl;have k5:Kept g g W X5:=e4▸k4.set_ (p:=⟨g,4,none⟩) (.inl rfl) v4;obtain⟨X6,e5⟩:∃ X,X5.setCell ⟨g,5,none⟩ v5=X:=⟨_,rfl⟩;have h6:Blk X6 g t #[v0,v1,v2,v3,v4,v5]:=e5▸q0h h5 5 v5 rfl;have k6:Kept g g W X6:=e5▸k5.set_ (p:=⟨g,5,none⟩) (.inl rfl) v5;exact⟨X1,X2,X3,X4,X5,X6,e0,e1,e2,e3,e4,e5,h0.frozen 0,h1.frozen 1,h2.frozen 2,h3.frozen 3,h4.frozen 4,h5.frozen 5,h0.cell 0,h1.cell 1,h2.cell 2,h3.cell 3,h4.cell 4,h5.cell 5,η h6,k6⟩
theorem z68{v0 v1:Value}{X:World}(h:Hid (Blk W g t #[u0,u1,u2,u3,u4,u5]))(e:((W.setCell ⟨g,0,none⟩ v0).setCell ⟨g,1,none⟩ v1)=X):Hid (Blk X g t #[v0,v1,u2,u3,u4,u5]):=η (e▸q0h (q0h h.out 0 v0 (cs':=#[v0,u1,u2,u3,u4,u5]) rfl) 1 v1 rfl)
theorem j11{v0 v1:Value}{X:World}(e:((W.setCell ⟨g,0,none⟩ v0).setCell ⟨g,1,none⟩ v1)=X):Kept g g W X:=e▸((Kept.refl g g W).set_ (p:=⟨g,0,none⟩) (.inl rfl) _).set_ (p:=⟨g,1,none⟩) (.inl rfl) _
theorem z67{v:Value}{X:World}(h:Hid (Blk W g t #[u0,u1,u2,u3,u4,u5]))(e:W.setCell ⟨g,5,none⟩ v=X):Hid (Blk X g t #[u0,u1,u2,u3,u4,v]):=η (e▸h.out.set_ 5 _)
theorem bkaq{X:World}{cs:Array Value}(e:W.alloc (.cells cs t)=X):Hid (Blk X W.heap.size t cs):=η (e▸Blk.new W t cs)
theorem alwq{X:World}{o:Obj}(e:W.alloc o=X):Below W.heap.size W X:=e▸(Below.refl _ W).alloc (Nat.le_refl _) _
end
end Go.Proofs.YtjobifclmcdjcaaGreatDoor
