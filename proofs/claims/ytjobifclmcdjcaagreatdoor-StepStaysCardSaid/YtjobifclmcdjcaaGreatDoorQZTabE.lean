import Derived.Lib.QuietBelow
import Derived.Test.YtjobifclmcdjcaaGreatDoorQZShoA
import Derived.Test.YtjobifclmcdjcaaGreatDoorQZLexD
import Derived.Test.YtjobifclmcdjcaaGreatDoorQZRulA
set_option maxHeartbeats 64000000
set_option maxRecDepth 100000
namespace Go.Proofs.YtjobifclmcdjcaaGreatDoor
open Go.RowKit Go.Shelf Go.Sort
attribute [local go_sem] Oper.semAt_some
namespace Tb
theorem okRules_all{x:PR}(h:okRules x=true):∀ k,k<3→Rl.right (x.nth k) (decide (k≠0))=true:=fun k hk=>by
 unfold okRules at h
 simp only[Bool.and_eq_true] at h
 rcases(by omega:k=0∨k=1∨k=2) with rfl|rfl|rfl
 ·exact h.1
 ·exact h.2.1
 ·exact h.2.2
theorem right_len{l:List Int}{b:Bool}(h:Rl.right l b=true):l.length≤40:=(of_decide_eq_true h).1
end Tb
end Go.Proofs.YtjobifclmcdjcaaGreatDoor
namespace Go.Proofs.YtjobifclmcdjcaaGreatDoor
open Go.RowKit Go.Shelf
attribute [local go_sem] Oper.semAt_some
structure Kept (R Q:Nat) (w w':World):Prop where
 os:w'.os=w.os
 tape:w'.tape=w.tape
 output:w'.output=w.output
 size:w.heap.size≤w'.heap.size
 block:∀ k,k<w.heap.size→k≠R→k≠Q→w'.heap[k]? = w.heap[k]?
section
variable {R Q:Nat} {a w w' w2:World}
theorem Kept.refl(R Q:Nat)(w:World):Kept R Q w w:=⟨rfl,rfl,rfl,Nat.le_refl _,fun _ _ _ _=>rfl⟩
theorem Kept.trans(h:Kept R Q a w)(h2:Kept R Q w w2):Kept R Q a w2 :=
 ⟨h2.os.trans h.os,h2.tape.trans h.tape,h2.output.trans h.output,Nat.le_trans h.size h2.size,fun k hk hR hQ=>(h2.block k (Nat.lt_of_lt_of_le hk h.size) hR hQ).trans (h.block k hk hR hQ)⟩
theorem Kept.of(h:Below w.heap.size w w'):Kept R Q w w':=⟨h.os,h.tape,h.output,h.size,fun k hk _ _=>h.block k hk⟩
theorem Kept.set_(h:Kept R Q a w){p:Addr}(hp:p.block=R∨p.block=Q)(u:Value):Kept R Q a (w.setCell p u) :=
 h.trans ⟨rfl,rfl,rfl,by simp[World.setCell],fun k _ hR hQ=>Below.heap_setCell _ _ _ _ (by rcases hp with e|e<;>rw[e]<;>assumption)⟩
theorem Kept.below(h:Kept R Q w w'){B:Nat}(hB:B≤w.heap.size)(hR:B≤R)(hQ:B≤Q):Below B w w' :=
 ⟨h.os,h.tape,h.output,h.size,fun k hk=>h.block k (by omega) (by omega) (by omega)⟩
theorem Kept.cell(h:Kept R Q w w'){p:Addr}(hp:p.block<w.heap.size)(hR:p.block≠R)(hQ:p.block≠Q):w'.cell? p=w.cell? p:=World.cell?_of_block (w:=w) (h.block _ hp hR hQ)
end
def ARow(R Q:Nat)(W:World)(A:Option Addr)(xs:List Value):Prop:=xs≠[]→∃ ad,A=some ad∧(ad.block<W.heap.size∧ad.block≠R∧ad.block≠Q)∧∀ j u,xs[j]? = some u→W.cell? (ad.add j)=some u
section
variable {R Q:Nat} {w w':World} {A:Option Addr} {xs:List Value}
theorem ARow.kept(h:ARow R Q w A xs)(hk:Kept R Q w w'):ARow R Q w' A xs:=fun hn=>by
 obtain⟨ad,e,⟨h1,h2,h3⟩,hc⟩:=h hn
 exact⟨ad,e,⟨Nat.lt_of_lt_of_le h1 hk.size,h2,h3⟩,fun j u hu=>(hk.cell (by rw[q0a];exact h1) (by rw[q0a];exact h2) (by rw[q0a];exact h3)).trans (hc j u hu)⟩
theorem ARow.row(h:ARow R Q w A xs):Row w w.heap.size A xs:=fun hn=>by
 obtain⟨ad,e,hb,hc⟩:=h hn
 exact⟨ad,e,hb.1,hc⟩
end
def AInts(R Q:Nat)(W:World)(v:Value)(l:List Int):Prop:=∃ A c,v=.slice A l.length c∧ARow R Q W A (ints l)∧l.length≤c
theorem AInts.kept{R Q:Nat}{w w':World}{v:Value}{l:List Int}(h:AInts R Q w v l)(hk:Kept R Q w w'):AInts R Q w' v l:=by
 obtain⟨A,c,e,hr,hc⟩:=h;exact⟨A,c,e,hr.kept hk,hc⟩
theorem AInts.ints{R Q:Nat}{w:World}{v:Value}{l:List Int}(h:AInts R Q w v l):IsInts w w.heap.size v l:=by
 obtain⟨A,c,e,hr,hc⟩:=h;exact⟨A,c,e,hr.row,hc⟩
def RowsQ(R Q:Nat)(W:World)(l:List Tb.PR):Prop :=
 ∃ vs:List Value,Blk W Q 55 vs.toArray∧vs.length=39∧∀ k x,l[k]? = some x→∃ a0 a1 a2,vs[k*3]? = some a0∧vs[k*3+1]? = some a1∧vs[k*3+2]? = some a2∧AInts R Q W a0 x.m∧AInts R Q W a1 x.r∧AInts R Q W a2 x.p
theorem RowsQ.kept{R Q:Nat}{w w':World}{l:List Tb.PR}(h:RowsQ R Q w l)(hk:Kept R Q w w')(hb:w'.heap[Q]? = w.heap[Q]?):RowsQ R Q w' l:=by
 obtain⟨vs,h1,h2,h3⟩:=h;refine⟨vs,hb.trans h1,h2,fun k x hx=>?_⟩;obtain⟨a0,a1,a2,e0,e1,e2,i0,i1,i2⟩:=h3 k x hx;exact⟨a0,a1,a2,e0,e1,e2,i0.kept hk,i1.kept hk,i2.kept hk⟩
def rcells(A:Option Addr)(n c P Q:Nat)(s:Tb.St):List Value:=[.slice A n c,.int .i64 (s.pos:Int),.slice (some ⟨P,0,none⟩) 3 3,.slice (some ⟨Q,0,none⟩) 13 13]++s.had.map Value.bool
structure Fast (R Q P b0 b1 b2:Nat):Prop where
 rq:R≠Q
 p:P≠R∧P≠Q
 v0:b0≠R∧b0≠Q
 v1:b1≠R∧b1≠Q
 v2:b2≠R∧b2≠Q
 g:0≠R∧0≠Q
structure TRd (R Q P b0 b1 b2:Nat) (A:Option Addr) (c:Nat) (l:List Lx.Tk) (s:Tb.St) (W:World):Prop where
 blk:Blk W R 147 (rcells A l.length c P Q s).toArray
 toks:ARow R Q W A (tcells l)
 rows:RowsQ R Q W s.rows
 parts:Parts P b0 b1 b2 W
 ins:Ins W
 st:Tb.Stand l s
theorem Parts.kept{R Q P b0 b1 b2:Nat}{w w':World}(h:Parts P b0 b1 b2 w)(hf:Fast R Q P b0 b1 b2)(hk:Kept R Q w w'):Parts P b0 b1 b2 w' :=
 ⟨(hk.block _ h.blk.lt hf.p.1 hf.p.2).trans h.blk,(hk.block _ h.v0.lt hf.v0.1 hf.v0.2).trans h.v0,(hk.block _ h.v1.lt hf.v1.1 hf.v1.2).trans h.v1,(hk.block _ h.v2.lt hf.v2.1 hf.v2.2).trans h.v2⟩
theorem Ins.kept{R Q P b0 b1 b2:Nat}{w w':World}(h:Ins w)(hf:Fast R Q P b0 b1 b2)(hk:Kept R Q w w'):Ins w':=fun k hk' =>
 ⟨(hk.cell (p:=⟨0,k*2,none⟩) h.lt hf.g.1 hf.g.2).trans (h k hk').1,(hk.cell (p:=⟨0,k*2+1,none⟩) h.lt hf.g.1 hf.g.2).trans (h k hk').2⟩
section
variable {R Q P b0 b1 b2 c:Nat} {A:Option Addr} {l:List Lx.Tk} {s:Tb.St} {w w':World}
theorem TRd.keep(h:TRd R Q P b0 b1 b2 A c l s w)(hf:Fast R Q P b0 b1 b2)(hb:Below w.heap.size w w'):TRd R Q P b0 b1 b2 A c l s w':=by
 obtain⟨vs,hq,_,_⟩:=h.rows;exact⟨h.blk.below hb h.blk.lt,h.toks.kept (.of hb),h.rows.kept (.of hb) (hb.block _ hq.lt),h.parts.kept hf (.of hb),h.ins.kept hf (.of hb),h.st⟩
theorem TRd.set_(h:TRd R Q P b0 b1 b2 A c l s w)(hf:Fast R Q P b0 b1 b2){i:Nat}{u:Value}{s':Tb.St}(hc:(rcells A l.length c P Q s).set i u=rcells A l.length c P Q s')(hr:s'.rows=s.rows)(hs:Tb.Stand l s') :
  TRd R Q P b0 b1 b2 A c l s' (w.setCell ⟨R,i,none⟩ u):=by
 have hk:Kept R Q w (w.setCell ⟨R,i,none⟩ u):=(Kept.refl R Q w).set_ (.inl rfl) u;refine⟨?_,h.toks.kept hk,?_,h.parts.kept hf hk,h.ins.kept hf hk,hs⟩
 ·have:=h.blk.set_ i u;rw[List.setIfInBounds_toArray,hc] at this;exact this
 ·rw[hr];exact h.rows.kept hk (Below.heap_setCell _ _ _ _ (fun e=>hf.rq e.symm))
theorem q22(s:Tb.St)(n:Nat):(rcells A l.length c P Q s).set 1 (.int .i64 (n:Int))=rcells A l.length c P Q { s with pos:=n }:=rfl
theorem TRd.c0(h:TRd R Q P b0 b1 b2 A c l s w):w.cell? ⟨R,0,none⟩=some (.slice A l.length c):=h.blk.cell 0
theorem TRd.c1(h:TRd R Q P b0 b1 b2 A c l s w):w.cell? ⟨R,1,none⟩=some (.int .i64 (s.pos:Int)):=h.blk.cell 1
theorem TRd.c2(h:TRd R Q P b0 b1 b2 A c l s w):w.cell? ⟨R,2,none⟩=some (.slice (some ⟨P,0,none⟩) 3 3):=h.blk.cell 2
theorem TRd.c3(h:TRd R Q P b0 b1 b2 A c l s w):w.cell? ⟨R,3,none⟩=some (.slice (some ⟨Q,0,none⟩) 13 13):=h.blk.cell 3
theorem TRd.had(h:TRd R Q P b0 b1 b2 A c l s w){k:Nat}(hk:k<13):w.cell? ⟨R,4+k,none⟩=some (.bool (s.had.getD k false)):=by
 rw[h.blk.cell,List.getElem?_toArray];show([_,_,_,_]++s.had.map Value.bool)[4+k]? = _;rw[List.getElem?_append_right (by simp),List.getElem?_map];have:[Value.slice A l.length c,.int .i64 (s.pos:Int),.slice (some ⟨P,0,none⟩) 3 3,.slice (some ⟨Q,0,none⟩) 13 13].length=4:=rfl;rw[this,show 4+k-4=k by omega,List.getElem?_eq_getElem (by rw[h.st.had];exact hk),List.getD_eq_getElem?_getD,List.getElem?_eq_getElem (by rw[h.st.had];exact hk)];rfl
theorem TRd.lt(h:TRd R Q P b0 b1 b2 A c l s w):R<w.heap.size:=h.blk.lt
theorem TRd.tok(h:TRd R Q P b0 b1 b2 A c l s w):∃ ad,A=some ad∧ad.block<w.heap.size∧w.cell? (ad.add (s.pos*3))=some (.int .i64 (Tb.tok l s.pos).kind) ∧
  w.cell? ⟨(ad.add (s.pos*3)).block,(ad.add (s.pos*3)).off+1,none⟩=some (.string (Tb.tok l s.pos).text)∧w.cell? ⟨(ad.add (s.pos*3)).block,(ad.add (s.pos*3)).off+2,none⟩=some (.int .i64 (Tb.tok l s.pos).pos):=by
 obtain⟨ad,t,e,hb,ht,c0,c1,c2⟩:=q3e h.toks.row h.st.pos;have e2:=Tb.tok_some h.st.pos;rw[ht] at e2;injection e2 with e2;subst e2;exact⟨ad,e,hb,c0,c1,c2⟩
end
def tkv(t:Lx.Tk):Value:=.agg #[.int .i64 t.kind,.string t.text,.int .i64 t.pos]
theorem j0b(a b:Int)(t:ByteArray)(w:World):(Instr.field 150 (.agg #[.int .i64 a,.string t,.int .i64 b]) 0).run Tryz.prog w=.ok (.int .i64 a) w:=by kernel_rfl
theorem j0c(a b:Int)(t:ByteArray)(w:World):(Instr.field 150 (.agg #[.int .i64 a,.string t,.int .i64 b]) 1).run Tryz.prog w=.ok (.string t) w:=by kernel_rfl
theorem z32(a b:Int)(t:ByteArray)(w:World):(Instr.field 150 (.agg #[.int .i64 a,.string t,.int .i64 b]) 2).run Tryz.prog w=.ok (.int .i64 b) w:=by kernel_rfl
def ToldT(R Q P b0 b1 b2:Nat)(A:Option Addr)(c:Nat)(l:List Lx.Tk)(w:World)(r:Tb.St×Nat)(e:Ending)(w':World):Prop :=
 e=.returned (.int .i64 (r.2:Nat))∧TRd R Q P b0 b1 b2 A c l r.1 w'∧Kept R Q w w'
section
variable {R Q P b0 b1 b2 c:Nat} {A:Option Addr} {l:List Lx.Tk} {s:Tb.St}
theorem q3y(w:World)(h:TRd R Q P b0 b1 b2 A c l s w):Calls Tryz.prog 96 #[.pointer (some ⟨R,0,none⟩)] w fun e w'=>e=.returned (tkv (Tb.tok l s.pos))∧Below w.heap.size w w':=by
 have c0:=h.c0;have c1:=h.c1;have hpos:=h.st.pos;have hR:=h.lt;obtain⟨ad,rfl,hb,t0,t1,t2⟩:=h.tok;have hb2:(ad.add (s.pos*3)).block<w.heap.size:=by rw[q0a];exact hb
 unfold tkv;generalize Tb.tok l s.pos=t at *;obtain⟨kd,tx,ps⟩:=t;dsimp only at t0 t1 t2 ⊢;generalize s.pos=p at *;generalize l.length=n at *;clear h;go_enter Tryz.func96,Tryz.ntmps96;go_wp2;go_region;all_goals go_wp2
 all_goals
  go_returns;exact⟨rfl,((Below.refl _ w).alloc (Nat.le_refl _) _).drew⟩
theorem q6m(hf:Fast R Q P b0 b1 b2)(hfi:Tb.Fine l)(m:ByteArray)(hm:m≠ByteArray.empty)(w:World)(h:TRd R Q P b0 b1 b2 A c l s w)(hl:l.length≤200) :
  Calls Tryz.prog 156 #[.pointer (some ⟨R,0,none⟩),.string m] w (ToldT R Q P b0 b1 b2 A c l w (Tb.markP l m s)):=by
 have hn:=q3y w h;have hstand:=Tb.markP_stand hfi hm h.st;have hpos:=h.st.pos;unfold Tb.markP at hstand ⊢;unfold tkv at hn;generalize Tb.tok l s.pos=t at *;obtain⟨kd,tx,ps⟩:=t;dsimp only at hn hstand ⊢;have H:=η h;have HN:=η hn;have hfd:=fun w=>j0c kd ps tx w
 by_cases ht:tx=m
 ·subst ht;rw[if_pos rfl] at hstand ⊢;have HS:=η hstand;clear h hn hstand;have hbe:(tx.toList==tx.toList)=true:=by rw[q4v];exact decide_eq_true rfl
  go_enter Tryz.func156,Tryz.ntmps156;go_wp2_with (fail);refine HN.out.mono ?_;rintro e w1 ⟨rfl,hb1⟩;have h1:=H.out.keep hf hb1;have c1:=h1.c1;have hR:=h1.lt;have hfz:w1.frozen? ⟨R,1,none⟩=false:=h1.blk.frozen 1;have hnx:=(h1.set_ hf (q22 s (s.pos+1)) rfl HS.out);rw[show((s.pos+1:Nat):Int)=(s.pos:Int)+1 by omega] at hnx;have HNX:=η hnx;have HK:=η ((Kept.of (R:=R) (Q:=Q) hb1).set_ (p:=⟨R,1,none⟩) (.inl rfl) (.int .i64 ((s.pos:Int)+1)));clear hb1 h1 hnx hm;go_wp2;go_ret;exact⟨rfl,HNX.out,HK.out⟩
 ·rw[if_neg ht] at hstand ⊢;have hbe:(tx.toList==m.toList)=false:=by rw[q4v];exact decide_eq_false ht
  clear h hn hstand hm;go_enter Tryz.func156,Tryz.ntmps156;go_wp2_with (fail);refine HN.out.mono ?_;rintro e w1 ⟨rfl,hb1⟩;have H1:=η (H.out.keep hf hb1);have HK:=η (Kept.of (R:=R) (Q:=Q) hb1);clear hb1;go_wp2;go_ret;exact⟨rfl,H1.out,HK.out⟩
end
end Go.Proofs.YtjobifclmcdjcaaGreatDoor
