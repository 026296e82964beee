import Derived.Test.YtjobifclmcdjcaaGreatDoorRows
import Derived.ProofKit
import Derived.Lib.SmallJoins
import Derived.OpenShut
import Derived.Maps.AppendAt
import Derived.Carry
import Derived.Deep.SlicePairs
import Derived.LaidMore
import Derived.Stop.Joined
import Derived.Lay
import Derived.Shelf.Vars
import Derived.Handed
import Derived.Test.YtjobifclmcdjcaaGreatDoorQZBase
import Derived.Test.YtjobifclmcdjcaaGreatDoorQZCodA
import Derived.Test.YtjobifclmcdjcaaGreatDoorQZCodE
import Derived.Test.YtjobifclmcdjcaaGreatDoorQZRulA
import Derived.Test.YtjobifclmcdjcaaGreatDoorQZShoA
set_option maxHeartbeats 64000000
set_option maxRecDepth 100000
namespace Go.Proofs.YtjobifclmcdjcaaGreatDoor
open Go.ChangeShapes Go.WideShapes Go.ChangeAt Go.RowKit Go.Joins
theorem Tryz.own:ownKnob Tryz.prog.godebug=none:=by kernel_rfl
theorem Tryz.laidOut:laidOutB Tryz.prog=true:=by kernel_rfl
theorem Tryz.cells25:Tryz.prog.cellsOf 25=2:=by kernel_rfl
theorem Tryz.cells9:Tryz.prog.cellsOf 9=1:=by kernel_rfl
theorem Tryz.cells75:Tryz.prog.cellsOf 75=1:=by kernel_rfl
section
variable {H:Type} {enc:TypeId×Value→H} {W:World}
theorem z7q{n:Nat}{v:Value}{y:DataW H×List MemPlace}(h:DataW.trod enc Tryz.prog W 0 (fun _=>true) true n 22 [v]=some y) :
  ∃(A:Option Addr) (names:List ByteArray) (c:Nat),v=.slice A names.length c∧Row W W.heap.size A (strs names)∧names.length≤c∧c≤maxLen∧∀ s ∈ names,s.size≤maxLen:=by
 rcases open_strings Tryz.underlying22 Tryz.underlying9 Tryz.cells9 h with⟨hcs,_⟩|⟨a,len,cap,ss,hcs,_,hl,hm,hz,_,hcell,hws⟩
 ·injection hcs with hcs _;exact⟨none,[],0,hcs,Row.nil,Nat.le_refl _,by decide,fun s hs=>by cases hs⟩
 ·injection hcs with hcs _;simp only[if_true] at hz;have hlen:(ss.take len).length=len:=by simp;omega
  refine⟨some a,ss.take len,cap,by rw[hlen];exact hcs,?_,by rw[hlen];exact hl,hm,fun s hs=>hws s (List.mem_of_mem_take hs)⟩;intro hne;have hl0:0<len:=by
   rcases Nat.eq_zero_or_pos len with h0|h0
   ·subst h0;exact absurd rfl hne
   ·exact h0
  have hcj:∀ j,j<len→W.cell? (a.add j)=some (.string (ss.getD j ByteArray.empty)):=fun j hj=>hcell j (by omega)
  refine⟨a,rfl,?_,fun j u hu=>?_⟩
  ·have:=block_lt_of_cell (hcj 0 hl0)
   rwa [q0a] at this
  ·unfold strs at hu;rw[List.getElem?_map,List.getElem?_take] at hu;split at hu
   ·rename_i hj
    rw[hcj j hj,←hu,List.getD_eq_getElem?_getD,List.getElem?_eq_getElem (show j<ss.length by omega)];rfl
   ·cases hu
theorem j0g{n:Nat}{v:Value}{y:DataW H×List MemPlace}(h:DataW.trod enc Tryz.prog W 0 (fun _=>true) true n 23 [v]=some y) :
  ∃(A:Option Addr) (up:List Nat) (c:Nat),v=.slice A up.length c∧Ups W W.heap.size A up∧up.length≤c∧c≤maxLen:=by
 rcases open_ints Tryz.underlying23 Tryz.underlying75 Tryz.cells75 h with⟨hcs,_⟩|⟨a,len,cap,zs,hcs,_,hl,hm,hz,_,hcell,hws⟩
 ·injection hcs with hcs _;exact⟨none,[],0,hcs,⟨Row.nil,fun k x hx=>by simp at hx⟩,Nat.le_refl _,by decide⟩
 ·injection hcs with hcs _;simp only[if_true] at hz;have hlen:((zs.take len).map Int.toNat).length=len:=by simp;omega
  have hb:∀ z ∈ zs,0≤z∧z≤4294967295:=fun z hz=>by
   have:=hws z hz
   simpa [Lit.wf,IntKind.min,IntKind.max,IntKind.signed,IntKind.bits] using this
  refine⟨some a,(zs.take len).map Int.toNat,cap,by rw[hlen];exact hcs,⟨?_,?_⟩,by rw[hlen];exact hl,hm⟩
  ·intro hne;have hl0:0<len:=by
    rcases Nat.eq_zero_or_pos len with h0|h0
    ·subst h0;exact absurd rfl hne
    ·exact h0
   have hcj:∀ j,j<len→W.cell? (a.add j)=some (.int .u32 (zs.getD j 0)):=fun j hj=>hcell j (by omega)
   refine⟨a,rfl,?_,fun j u hu=>?_⟩
   ·have:=block_lt_of_cell (hcj 0 hl0)
    rwa [q0a] at this
   ·unfold u32s at hu;rw[List.getElem?_map,List.getElem?_map,List.getElem?_take] at hu;split at hu
    ·rename_i hj
     have hjz:j<zs.length:=by omega
     rw[hcj j hj,←hu,List.getD_eq_getElem?_getD,List.getElem?_eq_getElem hjz];have:=hb zs[j] (List.getElem_mem hjz);simp only[Option.getD_some,Option.map_some,Option.some.injEq,Value.int.injEq,true_and];omega
    ·cases hu
  ·intro k x hx;rw[List.getElem?_map,List.getElem?_take] at hx;split at hx
   ·rename_i hk
    have hkz:k<zs.length:=by omega
    rw[List.getElem?_eq_getElem hkz] at hx;simp only[Option.map_some,Option.some.injEq] at hx;have:=hb zs[k] (List.getElem_mem hkz);omega
   ·cases hx
theorem q7m{base:Nat}{v:Value}{d:DataW H}{p:List MemPlace}(hv:Value.okWide Tryz.prog W .any base 25 v)(h:DataW.Trod enc Tryz.prog W 0 (fun _=>true) true 25 v d p) :
  ∃(A A':Option Addr) (names:List ByteArray) (up:List Nat) (c c':Nat),v=.agg #[.slice A names.length c,.slice A' up.length c']∧Row W W.heap.size A (strs names)∧Ups W W.heap.size A' up∧names.length≤c∧up.length≤c'∧c≤maxLen∧c'≤maxLen∧∀ s ∈ names,s.size≤maxLen:=by
 obtain⟨v0,v1,y0,y1,n,rfl,_,_,h0,h1⟩:=open_agg2 Tryz.underlying25 (by kernel_rfl) Tryz.cells25 hv h;obtain⟨A,names,c,rfl,hr,hc,hm,hs⟩:=z7q h0;obtain⟨A',up,c',rfl,hu,hc',hm'⟩:=j0g h1;exact⟨A,A',names,up,c,c',rfl,hr,hu,hc,hc',hm,hm',hs⟩
end
theorem q2p{H:Type}{enc:TypeId×Value→H}{W W':World}(hb:Below W.heap.size W W'):∀ {ts:List TypeId} {vs:List Value} {ds:List (DataW H)} {ps:List MemPlace},
  (∀ t ∈ ts,Tryz.prog.readableRec t=true∧t<Tryz.prog.types.size)→DataW.TrodAll enc Tryz.prog W 0 (fun _=>true) true ts vs ds ps→(∀ x ∈ ps,x.block<W.heap.size) →
  DataW.TrodAll enc Tryz.prog W' 0 (fun b=>decide (b<W.heap.size)) true ts vs ds ps
 | [],vs,ds,ps,_,h,_=>by
  obtain⟨rfl,rfl,rfl⟩:=trodAll_nil h
  exact trodAll_mk0
 | t :: ts,vs,ds,ps,hr,h,hlt=>by
  obtain⟨v,vs,d,ds,p,p',rfl,rfl,rfl,h1,h2⟩:=trodAll_cons h
  exact trodAll_cons_mk (Below.trod Tryz.laidOut (hr t List.mem_cons_self).1 (hr t List.mem_cons_self).2 h1 hb (fun x hx=>hlt x (List.mem_append_left _ hx))) (q2p hb (fun t ht=>hr t (List.mem_cons_of_mem _ ht)) h2 (fun x hx=>hlt x (List.mem_append_right _ hx)))
end Go.Proofs.YtjobifclmcdjcaaGreatDoor
namespace Go.Proofs.YtjobifclmcdjcaaGreatDoor
open Go.ChangeShapes Go.WideShapes Go.ChangeAt Go.RowKit Go.Joins Go.Deep
theorem Tryz.cellsInstr8:Tryz.prog.cellsOf 57=3:=by kernel_rfl
theorem Tryz.cellsInt8:Tryz.prog.cellsOf 3=1:=by kernel_rfl
theorem icells_row{W:World}{a:Addr}{l:List Cd.In}(h:∀ i t,l[i]? = some t→W.cell? (a.add (i*3))=some (.int .i64 t.op)∧W.cell? (a.add (i*3+1))=some (.int .i64 t.n)∧W.cell? (a.add (i*3+2))=some (.int .i64 t.l)):∀ j u,(icells l)[j]? = some u→W.cell? (a.add j)=some u:=by
 intro j u hu;have hj:j<l.length*3:=by
  have:=(List.getElem?_eq_some_iff.1 hu).1
  rwa [q5t] at this
 have hk:j / 3<l.length:=by omega
 have h1:=q5x l (j / 3) l[j / 3] (List.getElem?_eq_getElem hk);have h2:=h (j / 3) l[j / 3] (List.getElem?_eq_getElem hk);have hm:j=j / 3*3∨j=j / 3*3+1∨j=j / 3*3+2:=by omega
 rcases hm with e|e|e
 ·rw[e] at hu ⊢;rw[h1.1] at hu;rw[←hu];exact h2.1
 ·rw[e] at hu ⊢;rw[h1.2.1] at hu;rw[←hu];exact h2.2.1
 ·rw[e] at hu ⊢;rw[h1.2.2] at hu;rw[←hu];exact h2.2.2
instance:Inhabited Cd.In:=⟨⟨0,0,0⟩⟩
section
variable {H:Type} {enc:TypeId×Value→H} {W:World}
theorem z2j{n:Nat}{v:Value}{y:DataW H×List MemPlace}(h:DataW.trod enc Tryz.prog W 0 (fun _=>true) true n 31 [v]=some y) :
  ∃(A:Option Addr) (l:List Cd.In) (c:Nat),v=.slice A l.length c∧Row W W.heap.size A (icells l)∧l.length≤c∧c≤maxLen:=by
 rcases open_slice Tryz.underlying31 h with⟨hcs,_⟩|⟨a,len,cap,m,n,D,Pl,hcs,_,hl,hm,hz,_,hi⟩
 ·injection hcs with hcs _;exact⟨none,[],0,hcs,Row.nil,Nat.le_refl _,by decide⟩
 ·injection hcs with hcs _;simp only[if_true] at hz;subst hz;have each:∀ i,i<m→∃ t:Cd.In,(W.cell? (a.add (i*3))=some (.int .i64 t.op)∧W.cell? (a.add (i*3+1))=some (.int .i64 t.n)∧W.cell? (a.add (i*3+2))=some (.int .i64 t.l)):=by
   intro i him;obtain⟨cs',h1,h2⟩:=hi i him;rw[Tryz.cellsInstr8] at h1;obtain⟨_,hlen,hcell⟩:=World.cells?_some h1;obtain⟨xs,k,_,_,_,hxl,hf⟩:=DataW.trod_struct Tryz.underlying57 h2
   match xs,hxl,cs',hlen with
   | [y0,y1,y2],_,[v0,v1,v2],_ =>
    have g0:=hf 0 _ rfl;have g1:=hf 1 _ rfl;have g2:=hf 2 _ rfl;simp[Tryz.cellsInt8] at g0 g1 g2;have e0:=hcell 0 (by omega);have e1:=hcell 1 (by omega);have e2:=hcell 2 (by omega);rw[add_add] at e0 e1 e2;obtain⟨n0,h0,_⟩:=DataW.trod_int Tryz.underlying3 g0;obtain⟨n1,h1',_⟩:=DataW.trod_int Tryz.underlying3 g1;obtain⟨n2,h2',_⟩:=DataW.trod_int Tryz.underlying3 g2;injection h0 with h0 _;injection h1' with h1' _;injection h2' with h2' _;subst h0 h1' h2';exact⟨⟨n0,n1,n2⟩,by simpa using e0,by simpa using e1,by simpa using e2⟩
  obtain⟨q,hq⟩:=choose_lt each;have hlen:((List.range len).map q).length=len:=by simp
  refine⟨some a,(List.range len).map q,m,by rw[hlen];exact hcs,?_,by rw[hlen];exact hl,hm⟩;intro hne;have hl0:0<len:=by
   rcases Nat.eq_zero_or_pos len with h0|h0
   ·subst h0;exact absurd rfl hne
   ·exact h0
  refine⟨a,rfl,?_,icells_row fun i t ht=>?_⟩
  ·have:=block_lt_of_cell (hq 0 (by omega)).1
   rwa [q0a] at this
  ·have hi':i<len:=by have:=(List.getElem?_eq_some_iff.1 ht).1;simpa using this
   rw[List.getElem?_map,List.getElem?_range hi'] at ht;injection ht with ht;subst ht;exact hq i (by omega)
end
theorem Tryz.cellsAtom9:Tryz.prog.cellsOf 30=2:=by kernel_rfl
theorem Tryz.cellsSlot9:Tryz.prog.cellsOf 78=3:=by kernel_rfl
theorem Tryz.cellsBool9:Tryz.prog.cellsOf 4=1:=by kernel_rfl
theorem Tryz.cellsState9:Tryz.prog.cellsOf 35=6:=by kernel_rfl
theorem Tryz.cellsIns9:Tryz.prog.cellsOf 31=1:=by kernel_rfl
theorem Tryz.cellsAts9:Tryz.prog.cellsOf 32=1:=by kernel_rfl
theorem Tryz.cellsSls9:Tryz.prog.cellsOf 33=1:=by kernel_rfl
theorem fcells_row{α:Type}{f:α→List Value}{m:Nat}(hf:∀ x,(f x).length=m)(hm:0<m){W:World}{a:Addr}{l:List α}(h:∀ i t,l[i]? = some t→∀ j u,(f t)[j]? = some u→W.cell? (a.add (i*m+j))=some u):∀ j u,(fcells f l)[j]? = some u→W.cell? (a.add j)=some u:=by
 intro j u hu;have hj:j<l.length*m:=by
  have:=(List.getElem?_eq_some_iff.1 hu).1
  rwa [q01 hf] at this
 have hk:j / m<l.length:=(Nat.div_lt_iff_lt_mul hm).2 hj;have hr:j % m<m:=Nat.mod_lt _ hm;have h1:=q16 hf l (j / m) l[j / m] (List.getElem?_eq_getElem hk) (j % m) hr;have e:j / m*m+j % m=j:=by rw[Nat.mul_comm];exact Nat.div_add_mod j m
 rw[e] at h1;have h2:=h (j / m) l[j / m] (List.getElem?_eq_getElem hk) (j % m) u (by rw[←h1];exact hu)
 rwa [e] at h2
instance:Inhabited St.Atom:=⟨⟨0,0⟩⟩
instance:Inhabited St.Slot:=⟨⟨false,0,0⟩⟩
section
variable {H:Type} {enc:TypeId×Value→H} {W:World}
theorem q70{n:Nat}{v:Value}{y:DataW H×List MemPlace}(h:DataW.trod enc Tryz.prog W 0 (fun _=>true) true n 32 [v]=some y) :
  ∃(A:Option Addr) (l:List St.Atom) (c:Nat),v=.slice A l.length c∧Row W W.heap.size A (fcells avs l)∧l.length≤c∧c≤maxLen:=by
 rcases open_slice Tryz.underlying32 h with⟨hcs,_⟩|⟨a,len,cap,m,n,D,Pl,hcs,_,hl,hm,hz,_,hi⟩
 ·injection hcs with hcs _;exact⟨none,[],0,hcs,Row.nil,Nat.le_refl _,by decide⟩
 ·injection hcs with hcs _;simp only[if_true] at hz;subst hz;have each:∀ i,i<m→∃ t:St.Atom,∀ j u,(avs t)[j]? = some u→W.cell? (a.add (i*2+j))=some u:=by
   intro i him;obtain⟨cs',h1,h2⟩:=hi i him;rw[Tryz.cellsAtom9] at h1;obtain⟨_,hlen,hcell⟩:=World.cells?_some h1;obtain⟨xs,k,_,_,_,hxl,hf⟩:=DataW.trod_struct Tryz.underlying30 h2
   match xs,hxl,cs',hlen with
   | [y0,y1],_,[v0,v1],_ =>
    have g0:=hf 0 _ rfl;have g1:=hf 1 _ rfl;simp[Tryz.cellsInt8] at g0 g1;have e0:=hcell 0 (by omega);have e1:=hcell 1 (by omega);rw[add_add] at e0 e1;obtain⟨n0,h0',_⟩:=DataW.trod_int Tryz.underlying3 g0;injection h0' with h0' _;subst h0';obtain⟨n1,h1',_⟩:=DataW.trod_int Tryz.underlying3 g1;injection h1' with h1' _;subst h1';refine⟨⟨n0,n1⟩,fun j u hu=>?_⟩;rcases j with _|_|j
    ·simp[avs] at hu;subst hu;simpa using e0
    ·simp[avs] at hu;subst hu;simpa using e1
    ·simp[avs] at hu
  obtain⟨q,hq⟩:=choose_lt each;have hlen:((List.range len).map q).length=len:=by simp
  refine⟨some a,(List.range len).map q,m,by rw[hlen];exact hcs,?_,by rw[hlen];exact hl,hm⟩;intro hne;have hl0:0<len:=by
   rcases Nat.eq_zero_or_pos len with h0|h0
   ·subst h0;exact absurd rfl hne
   ·exact h0
  refine⟨a,rfl,?_,fcells_row q2h (by decide) fun i t ht=>?_⟩
  ·have:=block_lt_of_cell (hq 0 (by omega) 0 _ rfl)
   rwa [q0a] at this
  ·have hi':i<len:=by have:=(List.getElem?_eq_some_iff.1 ht).1;simpa using this
   rw[List.getElem?_map,List.getElem?_range hi'] at ht;injection ht with ht;subst ht;exact hq i (by omega)
theorem z5r{n:Nat}{v:Value}{y:DataW H×List MemPlace}(h:DataW.trod enc Tryz.prog W 0 (fun _=>true) true n 33 [v]=some y) :
  ∃(A:Option Addr) (l:List St.Slot) (c:Nat),v=.slice A l.length c∧Row W W.heap.size A (fcells svs l)∧l.length≤c∧c≤maxLen:=by
 rcases open_slice Tryz.underlying33 h with⟨hcs,_⟩|⟨a,len,cap,m,n,D,Pl,hcs,_,hl,hm,hz,_,hi⟩
 ·injection hcs with hcs _;exact⟨none,[],0,hcs,Row.nil,Nat.le_refl _,by decide⟩
 ·injection hcs with hcs _;simp only[if_true] at hz;subst hz;have each:∀ i,i<m→∃ t:St.Slot,∀ j u,(svs t)[j]? = some u→W.cell? (a.add (i*3+j))=some u:=by
   intro i him;obtain⟨cs',h1,h2⟩:=hi i him;rw[Tryz.cellsSlot9] at h1;obtain⟨_,hlen,hcell⟩:=World.cells?_some h1;obtain⟨xs,k,_,_,_,hxl,hf⟩:=DataW.trod_struct Tryz.underlying78 h2
   match xs,hxl,cs',hlen with
   | [y0,y1,y2],_,[v0,v1,v2],_ =>
    have g0:=hf 0 _ rfl;have g1:=hf 1 _ rfl;have g2:=hf 2 _ rfl;simp[Tryz.cellsInt8,Tryz.cellsBool9] at g0 g1 g2;have e0:=hcell 0 (by omega);have e1:=hcell 1 (by omega);have e2:=hcell 2 (by omega);rw[add_add] at e0 e1 e2;obtain⟨n0,h0',_⟩:=DataW.trod_bool Tryz.underlying4 g0;injection h0' with h0' _;subst h0';obtain⟨n1,h1',_⟩:=DataW.trod_int Tryz.underlying3 g1;injection h1' with h1' _;subst h1';obtain⟨n2,h2',_⟩:=DataW.trod_int Tryz.underlying3 g2;injection h2' with h2' _;subst h2';refine⟨⟨n0,n1,n2⟩,fun j u hu=>?_⟩;rcases j with _|_|_|j
    ·simp[svs] at hu;subst hu;simpa using e0
    ·simp[svs] at hu;subst hu;simpa using e1
    ·simp[svs] at hu;subst hu;simpa using e2
    ·simp[svs] at hu
  obtain⟨q,hq⟩:=choose_lt each;have hlen:((List.range len).map q).length=len:=by simp
  refine⟨some a,(List.range len).map q,m,by rw[hlen];exact hcs,?_,by rw[hlen];exact hl,hm⟩;intro hne;have hl0:0<len:=by
   rcases Nat.eq_zero_or_pos len with h0|h0
   ·subst h0;exact absurd rfl hne
   ·exact h0
  refine⟨a,rfl,?_,fcells_row q07 (by decide) fun i t ht=>?_⟩
  ·have:=block_lt_of_cell (hq 0 (by omega) 0 _ rfl)
   rwa [q0a] at this
  ·have hi':i<len:=by have:=(List.getElem?_eq_some_iff.1 ht).1;simpa using this
   rw[List.getElem?_map,List.getElem?_range hi'] at ht;injection ht with ht;subst ht;exact hq i (by omega)
theorem q3c{base:Nat}{v:Value}{d:DataW H}{p:List MemPlace}(hv:Value.okWide Tryz.prog W .any base 35 v)(h:DataW.Trod enc Tryz.prog W 0 (fun _=>true) true 35 v d p) :
  ∃(s:St.State) (cA mA sA oA:Option Addr) (cc mc sc oc:Nat),v=incv s cA cc mA mc sA sc oA oc∧StIn W W.heap.size s cA cc mA mc sA sc oA oc:=by
 obtain⟨cs,rfl,hsz⟩:=okWide_struct Tryz.underlying35 hv;rw[Tryz.cellsState9] at hsz;obtain⟨l0⟩:=cs
 match l0,hsz with
 | [v0,v1,v2,v3,v4,v5],_ =>
  obtain⟨n,h⟩:=h;obtain⟨xs,k,_,_,_,hxl,hf⟩:=DataW.trod_struct Tryz.underlying35 h
  match xs,hxl with
  | [y0,y1,y2,y3,y4],_ =>
   have g0:=hf 0 _ rfl;have g1:=hf 1 _ rfl;have g2:=hf 2 _ rfl;have g3:=hf 3 _ rfl;have g4:=hf 4 _ rfl;simp[Tryz.cellsAtom9,Tryz.cellsIns9,Tryz.cellsAts9,Tryz.cellsSls9,Value.cells] at g0 g1 g2 g3 g4;obtain⟨xs',k',_,_,_,hxl',hf'⟩:=DataW.trod_struct Tryz.underlying30 g0
   match xs',hxl' with
   | [z0,z1],_ =>
    have e0:=hf' 0 _ rfl;have e1:=hf' 1 _ rfl;simp[Tryz.cellsInt8] at e0 e1;obtain⟨n0,h0,_⟩:=DataW.trod_int Tryz.underlying3 e0;obtain⟨n1,h1,_⟩:=DataW.trod_int Tryz.underlying3 e1;injection h0 with h0 _;injection h1 with h1 _;subst h0 h1;obtain⟨A1,l1,c1,rfl,r1⟩:=z2j g1;obtain⟨A2,l2,c2,rfl,r2⟩:=q70 g2;obtain⟨A3,l3,c3,rfl,r3⟩:=z5r g3;obtain⟨A4,l4,c4,rfl,r4⟩:=q70 g4;exact⟨⟨⟨n0,n1⟩,l1,l2,l3,l4⟩,A1,A2,A3,A4,c1,c2,c3,c4,rfl,⟨r1,r2,r3,r4⟩⟩
end
end Go.Proofs.YtjobifclmcdjcaaGreatDoor
namespace Go.Proofs.YtjobifclmcdjcaaGreatDoor
open Go.ChangeShapes Go.WideShapes Go.ChangeAt Go.RowKit Go.Joins
theorem Tryz.cellsOne3:Tryz.prog.cellsOf 3=1:=by kernel_rfl
section
variable {H:Type} {enc:TypeId×Value→H} {W:World}
theorem q5z{n:Nat}{v:Value}{y:DataW H×List MemPlace}(h:DataW.trod enc Tryz.prog W 0 (fun _=>true) true n 53 [v]=some y) :
  ∃(A:Option Addr) (l:List Int) (c:Nat),v=.slice A l.length c∧Row W W.heap.size A (ints l)∧l.length≤c∧c≤maxLen:=by
 rcases open_ints Tryz.underlying53 Tryz.underlying3 Tryz.cellsOne3 h with⟨hcs,_⟩|⟨a,len,cap,zs,hcs,_,hl,hm,hz,_,hcell,hws⟩
 ·injection hcs with hcs _;exact⟨none,[],0,hcs,Row.nil,Nat.le_refl _,by decide⟩
 ·injection hcs with hcs _;simp only[if_true] at hz;have hlen:(zs.take len).length=len:=by simp;omega
  refine⟨some a,zs.take len,cap,by rw[hlen];exact hcs,?_,by rw[hlen];exact hl,hm⟩;intro hne;have hl0:0<len:=by
   rcases Nat.eq_zero_or_pos len with h0|h0
   ·subst h0;exact absurd rfl hne
   ·exact h0
  have hcj:∀ j,j<len→W.cell? (a.add j)=some (.int .i64 (zs.getD j 0)):=fun j hj=>hcell j (by omega)
  refine⟨a,rfl,?_,fun j u hu=>?_⟩
  ·have:=block_lt_of_cell (hcj 0 hl0)
   rwa [q0a] at this
  ·unfold ints at hu;rw[List.getElem?_map,List.getElem?_take] at hu;split at hu
   ·rename_i hj
    rw[hcj j hj,←hu,List.getD_eq_getElem?_getD,List.getElem?_eq_getElem (show j<zs.length by omega)];rfl
   ·cases hu
end
end Go.Proofs.YtjobifclmcdjcaaGreatDoor
namespace Go.Proofs.YtjobifclmcdjcaaGreatDoor
open Go.ChangeShapes Go.WideShapes Go.ChangeAt Go.RowKit Go.Joins Go.Deep
theorem Tryz.cells55:Tryz.prog.cellsOf 55=3:=by kernel_rfl
theorem Tryz.cellsOne53:Tryz.prog.cellsOf 53=1:=by kernel_rfl
theorem Tryz.cellsOne26:Tryz.prog.cellsOf 26=1:=by kernel_rfl
theorem Tryz.cells28:Tryz.prog.cellsOf 28=1:=by kernel_rfl
def pick3(q:Value×Value×Value)(r:Nat):Value:=if r=0 then q.1 else if r=1 then q.2.1 else q.2.2
def trips(f:Nat→Value×Value×Value)(n:Nat):List Value:=(List.range (n*3)).map fun j=>pick3 (f (j / 3)) (j % 3)
theorem q5o(f:Nat→Value×Value×Value){n j:Nat}(h:j<n*3):(trips f n)[j]? = some (pick3 (f (j / 3)) (j % 3)):=by
 unfold trips;rw[List.getElem?_map,List.getElem?_range h];rfl
theorem trips_row{W:World}{a:Addr}{f:Nat→Value×Value×Value}{n:Nat}(h:∀ i,i<n→W.cell? (a.add (i*3))=some (f i).1∧W.cell? (a.add (i*3+1))=some (f i).2.1∧W.cell? (a.add (i*3+2))=some (f i).2.2):∀ j u,(trips f n)[j]? = some u→W.cell? (a.add j)=some u:=by
 intro j u hu;have hj:j<n*3:=by
  have:=(List.getElem?_eq_some_iff.1 hu).1
  simpa [trips] using this
 rw[q5o f hj] at hu;obtain⟨h0,h1,h2⟩:=h (j / 3) (by omega);have hm:j=j / 3*3∧j % 3=0∨j=j / 3*3+1∧j % 3=1∨j=j / 3*3+2∧j % 3=2:=by omega
 rcases hm with⟨e,er⟩|⟨e,er⟩|⟨e,er⟩
 ·rw[er] at hu;rw[←hu];rw[←e] at h0;exact h0
 ·rw[er] at hu;rw[←hu];rw[←e] at h1;exact h1
 ·rw[er] at hu;rw[←hu];rw[←e] at h2;exact h2
instance:Inhabited Tb.PR:=⟨Tb.PR.none⟩
section
variable {H:Type} {enc:TypeId×Value→H} {W:World}
theorem z7k{n:Nat}{v:Value}{y:DataW H×List MemPlace}(h:DataW.trod enc Tryz.prog W 0 (fun _=>true) true n 26 [v]=some y) :
  ∃(A:Option Addr) (l:List Tb.PR) (c:Nat),v=.slice A l.length c∧RowsIn W W.heap.size A l∧l.length≤c∧c≤maxLen:=by
 rcases open_slice Tryz.underlying26 h with⟨hcs,_⟩|⟨a,len,cap,m,n,D,Pl,hcs,_,hl,hm,hz,_,hi⟩
 ·injection hcs with hcs _;exact⟨none,[],0,hcs,RowsIn.nil _ _ _,Nat.le_refl _,by decide⟩
 ·injection hcs with hcs _;simp only[if_true] at hz;subst hz;have each:∀ i,i<m→∃ t:(Value×Value×Value)×Tb.PR,(W.cell? (a.add (i*3))=some t.1.1∧W.cell? (a.add (i*3+1))=some t.1.2.1∧W.cell? (a.add (i*3+2))=some t.1.2.2) ∧
    IsInts W W.heap.size t.1.1 t.2.m∧IsInts W W.heap.size t.1.2.1 t.2.r∧IsInts W W.heap.size t.1.2.2 t.2.p:=by
   intro i him;obtain⟨cs',h1,h2⟩:=hi i him;rw[Tryz.cells55] at h1;obtain⟨_,hlen,hcell⟩:=World.cells?_some h1;obtain⟨xs,k,_,_,_,hxl,hf⟩:=DataW.trod_struct Tryz.underlying55 h2
   match xs,hxl,cs',hlen with
   | [y0,y1,y2],_,[v0,v1,v2],_ =>
    have g0:=hf 0 _ rfl;have g1:=hf 1 _ rfl;have g2:=hf 2 _ rfl;simp[Tryz.cellsOne53] at g0 g1 g2;have e0:=hcell 0 (by omega);have e1:=hcell 1 (by omega);have e2:=hcell 2 (by omega);rw[add_add] at e0 e1 e2;obtain⟨A0,l0,c0,rfl,r0,k0,_⟩:=q5z g0;obtain⟨A1,l1,c1,rfl,r1,k1,_⟩:=q5z g1;obtain⟨A2,l2,c2,rfl,r2,k2,_⟩:=q5z g2;exact⟨((_,_,_),⟨l0,l1,l2⟩),⟨by simpa using e0,by simpa using e1,by simpa using e2⟩,⟨A0,c0,rfl,r0,k0⟩,⟨A1,c1,rfl,r1,k1⟩,⟨A2,c2,rfl,r2,k2⟩⟩
  obtain⟨q,hq⟩:=choose_lt each;have hlen:((List.range len).map fun i=>(q i).2).length=len:=by simp
  refine⟨some a,(List.range len).map fun i=>(q i).2,m,by rw[hlen];exact hcs,⟨trips (fun i=>(q i).1) len,by simp[trips],fun hne=>?_,fun k x hx=>?_⟩,by rw[hlen];exact hl,hm⟩
  ·have hl0:0<len:=by
    rcases Nat.eq_zero_or_pos len with h0|h0
    ·subst h0;exact absurd rfl hne
    ·exact h0
   refine⟨a,rfl,?_,trips_row fun i hi'=>(hq i (by omega)).1⟩;have:=block_lt_of_cell (hq 0 (by omega)).1.1
   rwa [q0a] at this
  ·have hk:k<len:=by have:=(List.getElem?_eq_some_iff.1 hx).1;simpa using this
   rw[List.getElem?_map,List.getElem?_range hk] at hx;injection hx with hx;subst hx;refine⟨(q k).1.1,(q k).1.2.1,(q k).1.2.2,?_,?_,?_,(hq k (by omega)).2⟩
   ·rw[q5o _ (by omega),show k*3 / 3=k by omega,show k*3 % 3=0 by omega];rfl
   ·rw[q5o _ (by omega),show(k*3+1) / 3=k by omega,show(k*3+1) % 3=1 by omega];rfl
   ·rw[q5o _ (by omega),show(k*3+2) / 3=k by omega,show(k*3+2) % 3=2 by omega];rfl
theorem q32{base:Nat}{v:Value}{d:DataW H}{p:List MemPlace}(hv:Value.okWide Tryz.prog W .any base 28 v)(h:DataW.Trod enc Tryz.prog W 0 (fun _=>true) true 28 v d p) :
  ∃(A:Option Addr) (l:List Tb.PR) (c:Nat),v=.agg #[.slice A l.length c]∧RowsIn W W.heap.size A l∧l.length≤c∧c≤maxLen:=by
 obtain⟨cs,rfl,hsz⟩:=okWide_struct Tryz.underlying28 hv;rw[Tryz.cells28] at hsz;obtain⟨l0⟩:=cs
 match l0,hsz with
 | [v0],_ =>
  obtain⟨n,h⟩:=h;obtain⟨xs,k,_,_,_,hxl,hf⟩:=DataW.trod_struct Tryz.underlying28 h
  match xs,hxl with
  | [y0],_ =>
   have g0:=hf 0 _ rfl;simp[Tryz.cellsOne26,Value.cells] at g0;obtain⟨A,l,c,rfl,h1,h2,h3⟩:=z7k g0;exact⟨A,l,c,rfl,h1,h2,h3⟩
end
end Go.Proofs.YtjobifclmcdjcaaGreatDoor
namespace Go.Proofs.YtjobifclmcdjcaaGreatDoor
open Go.ChangeShapes Go.WideShapes Go.ChangeAt Go.RowKit
theorem Tryz.gIns8:Tryz.prog.globalNamed "reticent/table.instructions" = some 0:=by kernel_rfl
theorem Tryz.tIns8:(Tryz.prog.globals[0]?).map (·.type)=some 194:=by kernel_rfl
abbrev laid8i:List (String×DataW Unit):=[("reticent/table.instructions",Rows.laid_reticent_table_instructions)]
theorem z3h{a b:ByteArray}(h:a.data.toList=b.data.toList):a=b:=by
 cases a;cases b
 congr 1
 exact Array.toList_inj.1 h
theorem q3n{W:World}(h:laidMetH Tryz.prog laid8i W):Ins W:=by
 rw[MakeChecks.laidMetH_plain _ _ _ (by kernel_rfl)] at h;obtain⟨ps,⟨g1,t1,cs1,f1,p1,q1,hg1,ht1,hv1,hd1,hn1,hq1⟩,hnd,hall⟩:=h;obtain rfl:=Option.some.inj (Tryz.gIns8.symm.trans hg1);obtain rfl:=Option.some.inj (Tryz.tIns8.symm.trans ht1);obtain⟨xs,m1,rfl,hx1,hlen,hn3,hel⟩:=DataW.trod_array Tryz.underlying194 hd1;have c9:Tryz.prog.cellsOf 193=2:=by kernel_rfl
 have key:∀(i:Nat) (s:ByteArray) (n:Int),i<13→(xs.map (·.1))[i]? = some (.agg [.lit (.string s.data.toList),.lit (.int .i64 n)])→W.cell? ⟨0,i*2,none⟩=some (.string s)∧W.cell? ⟨0,i*2+1,none⟩=some (.int .i64 n):=fun i s n hi hs=>by
  have h0:=hel i hi;rw[List.getElem?_map] at hs;obtain⟨x,hx,hxs⟩:=Option.map_eq_some_iff.1 hs;rw[hx,c9] at h0;obtain⟨y0,y1,k,hxy,hcl,h1,h2⟩:=trod_struct2 Tryz.underlying193 h0;rw[hxy] at hxs;simp only[DataW.agg.injEq,List.cons.injEq,and_true] at hxs;obtain⟨hy0,hy1⟩:=hxs;obtain⟨s',e1,e2,_⟩:=DataW.trod_string Tryz.underlying9 h1;obtain⟨n',e3,e4,_⟩:=DataW.trod_int Tryz.underlying3 h2;rw[e2] at hy0;rw[e4] at hy1;injection hy0 with hy0;injection hy0 with hy0;injection hy1 with hy1;injection hy1 with _ hy1;have hss:=z3h hy0;subst hss hy1;have ha:=World.var?_cell hg1 hv1 (i*2);have hb:=World.var?_cell hg1 hv1 (i*2+1);rw[ha,hb];have c0:Tryz.prog.cellsOf 9=1:=by kernel_rfl
  have c1:Tryz.prog.cellsOf 3=1:=by kernel_rfl
  have e1':(((cs1.toList.drop (i*2)).take 2).drop 0).take 1=[.string s']:=by rw[←e1];simp only[c0]
  have e3':(((cs1.toList.drop (i*2)).take 2).drop 1).take 1=[.int .i64 n']:=by rw[←e3];simp only[c1]
  have f1:((((cs1.toList.drop (i*2)).take 2).drop 0).take 1)[0]? = some (.string s'):=by rw[e1'];rfl
  have f3:((((cs1.toList.drop (i*2)).take 2).drop 1).take 1)[0]? = some (.int .i64 n'):=by rw[e3'];rfl
  rw[List.getElem?_take,if_pos (by decide),List.getElem?_drop,List.getElem?_take,if_pos (by decide),List.getElem?_drop] at f1 f3;exact⟨by simpa using f1,by simpa using f3⟩
 have hw:=(Prod.mk.inj hx1).1;injection hw with hw;rw[←hw] at key;intro k hk;rcases(by omega:k=0∨k=1∨k=2∨k=3∨k=4∨k=5∨k=6∨k=7∨k=8∨k=9∨k=10∨k=11∨k=12) with rfl|rfl|rfl|rfl|rfl|rfl|rfl|rfl|rfl|rfl|rfl|rfl|rfl;all_goals exact key _ _ _ (by decide) rfl
theorem q46(os:Os)(args:Array Value):laidMetH Tryz.prog laid8i ((World.doorLaid Tryz.prog 400 os).forCall (fun _ _=>0) ⟨#[],args,[]⟩).memory :=
 laidMetH_of_parts3 (fuel:=8) (laidMet_of_run' 8 (by kernel_rfl) (by kernel_rfl)) (by kernel_rfl) (by kernel_rfl)
theorem q3q{H:Type}{enc:TypeId×Value→H}{C:Checked}{os:Os}{f:FuncId}{fn:Func}{s:ChangeSpec}{conds:List PathCond}{apart fresh handsOn again:Bool}{X:World→Array Value→Prop}(hX:∀(w w':World) (args:Array Value),w.heap=w'.heap→X w args→X w' args)(own:ownKnob C.prog.godebug=none)(started:os.Started)(noInit:C.prog.inits.idxOf? f=none)(hfn:C.prog.funcs[f]? = some fn)(witness:∃(w:World) (tape:Tape) (i:Input),w.os=os∧(w.forCall tape i).Shaped C.prog∧i.vars=[]∧Input.okWide C.prog (w.forCall tape i) .any w.heap.size f i ∧
   ((s.pre enc C.prog fn conds apart (w.forCall tape i).memory i.args∧X (w.forCall tape i).memory i.args)∧sizedMet enc C.prog fn (OpenSpec.ofChange s) apart (w.forCall tape i).memory i.args)∧({}:Assume).holds C.prog (lone (Frame.enter C.prog f i.args .normal) [] (w.forCall tape i)))(walk:∀(W:World) (base:Nat) (args:Array Value) (ds gs:List (DataW H)) (before:List MemPlace),(∀(j:Nat) t v,fn.params[j]? = some t→args[j]? = some v→Value.okWide C.prog W .any base t v) →
   DataW.Whole enc C.prog fn.params.toList s.vars apart W args.toList ds gs before→X W args→W.ShapedOpen C.prog →
   Calls C.prog f args W fun e W'=>∃ v,e=.returned v∧s.post enc C.prog fn apart fresh handsOn again W args v W') :
  ReturnsInHanded {} C os f .any (fun w args=>(s.pre enc C.prog fn conds apart w args∧X w args)∧sizedMet enc C.prog fn (OpenSpec.ofChange s) apart w args) (s.post enc C.prog fn apart fresh handsOn again) :=
 returnsInHanded_of_calls own started noInit witness fun w tape i _ hsh _ hok hpre _=>by
  obtain⟨-,-,-,g,hg,-,-,-,-,hval⟩:=hok
  obtain rfl:g=fn:=Option.some.inj (hg.symm.trans hfn)
  obtain⟨⟨⟨ds,gs,before,hw,-⟩,hx⟩,-⟩:=hpre
  refine Calls.mono (walk (w.forCall tape i) w.heap.size i.args ds gs before hval (DataW.Whole.of_heap (by rfl) hw) (hX _ _ _ (by rfl) hx) hsh) ?_
  rintro e W' ⟨v,rfl,hp⟩
  exact ChangeSpec.post_blind hp
end Go.Proofs.YtjobifclmcdjcaaGreatDoor
