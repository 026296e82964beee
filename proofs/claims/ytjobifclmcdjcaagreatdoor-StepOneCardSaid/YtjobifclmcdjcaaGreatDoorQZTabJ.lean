import Derived.StillTailTactics
import Derived.Deep.Cut
import Derived.Test.YtjobifclmcdjcaaGreatDoorQZTabH
set_option maxHeartbeats 64000000
set_option maxRecDepth 100000
namespace Go.Proofs.YtjobifclmcdjcaaGreatDoor
open Go.RowKit Go.Shelf
attribute [local go_sem] Oper.semAt_some
theorem AInts.of_new{R Q B:Nat}{w:World}{v:Value}{l:List Int}(h:IsInts w w.heap.size v l)(hn:NewAt B v)(hR:R<B)(hQ:Q<B):AInts R Q w v l:=by
 obtain⟨A,c,e,hr,hc⟩:=h;refine⟨A,c,e,fun hx=>?_,hc⟩;obtain⟨ad,rfl,hb,hcl⟩:=hr hx;have:=hn ad _ _ e;exact⟨ad,rfl,⟨hb,by omega,by omega⟩,hcl⟩
theorem RowsQ.set_{R Q:Nat}{w:World}{l:List Tb.PR}{v:Value}{x:List Int}(h:RowsQ R Q w l)(hl:l.length=13){op j:Nat}(hop:op<13)(hj:j<3)(hv:AInts R Q w v x) :
  RowsQ R Q (w.setCell ⟨Q,op*3+j,none⟩ v) (l.set op ((l.getD op Tb.PR.none).put j x)):=by
 obtain⟨vs,h1,h2,h3⟩:=h;have hk:Kept R Q w (w.setCell ⟨Q,op*3+j,none⟩ v):=(Kept.refl R Q w).set_ (.inr rfl) v;have hb:=h1.set_ (op*3+j) v;rw[List.setIfInBounds_toArray] at hb;refine⟨vs.set (op*3+j) v,hb,by rw[List.length_set];exact h2,fun k y hy=>?_⟩;by_cases hko:op=k
 ·subst hko;rw[List.getElem?_set_self (by omega)] at hy;injection hy with hy;obtain⟨a0,a1,a2,e0,e1,e2,i0,i1,i2⟩:=h3 op l[op] (List.getElem?_eq_getElem (by omega));have hg:l.getD op Tb.PR.none=l[op]:=by rw[List.getD_eq_getElem?_getD,List.getElem?_eq_getElem (by omega)];rfl
  rw[hg] at hy;rcases(by omega:j=0∨j=1∨j=2) with rfl|rfl|rfl
  ·refine⟨v,a1,a2,by rw[Nat.add_zero,List.getElem?_set_self (by omega)],by rw[List.getElem?_set_ne (by omega)];exact e1,by rw[List.getElem?_set_ne (by omega)];exact e2,?_,?_,?_⟩
   ·rw[←hy];exact hv.kept hk
   ·rw[←hy];exact i1.kept hk
   ·rw[←hy];exact i2.kept hk
  ·refine⟨a0,v,a2,by rw[List.getElem?_set_ne (by omega)];exact e0,by rw[List.getElem?_set_self (by omega)],by rw[List.getElem?_set_ne (by omega)];exact e2,?_,?_,?_⟩
   ·rw[←hy];exact i0.kept hk
   ·rw[←hy];exact hv.kept hk
   ·rw[←hy];exact i2.kept hk
  ·refine⟨a0,a1,v,by rw[List.getElem?_set_ne (by omega)];exact e0,by rw[List.getElem?_set_ne (by omega)];exact e1,by rw[List.getElem?_set_self (by omega)],?_,?_,?_⟩
   ·rw[←hy];exact i0.kept hk
   ·rw[←hy];exact i1.kept hk
   ·rw[←hy];exact hv.kept hk
 ·rw[List.getElem?_set_ne hko] at hy;obtain⟨a0,a1,a2,e0,e1,e2,i0,i1,i2⟩:=h3 k y hy;have hk13:=(List.getElem?_eq_some_iff.1 hy).1;exact⟨a0,a1,a2,by rw[List.getElem?_set_ne (by omega)];exact e0,by rw[List.getElem?_set_ne (by omega)];exact e1,by rw[List.getElem?_set_ne (by omega)];exact e2,i0.kept hk,i1.kept hk,i2.kept hk⟩
section
variable {R Q P b0 b1 b2 c:Nat} {A:Option Addr} {l:List Lx.Tk} {s:Tb.St}
theorem TRd.row_(hf:Fast R Q P b0 b1 b2){w:World}(h:TRd R Q P b0 b1 b2 A c l s w){op j:Nat}(hop:op<13)(hj:j<3){v:Value}{x:List Int}(hv:AInts R Q w v x) :
  TRd R Q P b0 b1 b2 A c l { s with rows:=s.rows.set op ((s.rows.getD op Tb.PR.none).put j x) } (w.setCell ⟨Q,op*3+j,none⟩ v):=by
 have hk:Kept R Q w (w.setCell ⟨Q,op*3+j,none⟩ v):=(Kept.refl R Q w).set_ (.inr rfl) v;exact⟨h.blk.other (fun e=>hf.rq e.symm) v,h.toks.kept hk,h.rows.set_ h.st.rows hop hj hv,h.parts.kept hf hk,h.ins.kept hf hk,⟨h.st.pos,by rw[List.length_set];exact h.st.rows,h.st.had⟩⟩
theorem RowsQ.lt{R Q:Nat}{w:World}{l:List Tb.PR}(h:RowsQ R Q w l):Q<w.heap.size:=by
 obtain⟨vs,h1,_⟩:=h;exact h1.lt
theorem RowsQ.cell{R Q:Nat}{w:World}{l:List Tb.PR}(h:RowsQ R Q w l){i:Nat}(hi:i<39):∃ u,w.cell? ⟨Q,i,none⟩=some u∧w.frozen? ⟨Q,i,none⟩=false:=by
 obtain⟨vs,h1,h2,_⟩:=h;exact⟨vs[i],by rw[h1.cell,List.getElem?_toArray,List.getElem?_eq_getElem],h1.frozen _⟩
end
end Go.Proofs.YtjobifclmcdjcaaGreatDoor
