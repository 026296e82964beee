import Derived.Deep.RegionLaw
import Derived.Maps.AppendAt
import Derived.Laws.EntriesVeiled
import Derived.BigRegion
import Derived.RangeFuncBox
import Derived.BigQuiet
import Derived.Deep.QuietTactic
import Derived.KernelRfl
import Derived.Test.YtjobifclmcdjcaaGreatDoorQZLexP
import Derived.Test.YtjobifclmcdjcaaGreatDoorQZPairs
import Derived.Test.YtjobifclmcdjcaaGreatDoorQZLexD
import Derived.Test.YtjobifclmcdjcaaGreatDoorQZMapLit
import Derived.Test.YtjobifclmcdjcaaGreatDoorQZLexA
set_option maxHeartbeats 64000000
set_option maxRecDepth 100000
namespace Go.Proofs.YtjobifclmcdjcaaGreatDoor
open Go.RowKit Go.Shelf
def ent:List (ByteArray×Int)→Nat→List MapEntry
 | [],_=>[]
 | (k,n) :: r,i=>⟨.string k,.int .i64 n,i⟩ :: ent r (i+1)
def putsTo(n:Nat):Array MapEntry:=(ent (Rl.table.take n) 0).toArray
theorem z0e(s:ByteArray):∀(l:List (ByteArray×Int)) (i j:Nat),(∃ q,Instr.findNow .string (.string s) (ent l i) j=some (some (q,.int .i64 (Rl.look s l))))∨(Instr.findNow .string (.string s) (ent l i) j=some none∧Rl.look s l=0)
 | [],i,j=>.inr ⟨rfl,rfl⟩
 | (k,n) :: r,i,j=>by
  by_cases h:k=s
  ·subst h;left;refine⟨j,?_⟩;have hb:(k==k)=true:=(MapKept.bytes_beq k k).2 rfl;simp[ent,Instr.findNow,Instr.sameNow,Rl.look,hb]
  ·have hb:(s==k)=false:=by
    cases e:s==k with
    | false=>rfl
    | true=>exact absurd ((MapKept.bytes_beq s k).1 e).symm h
   have e1:Instr.findNow .string (.string s) (ent ((k,n) :: r) i) j=Instr.findNow .string (.string s) (ent r (i+1)) (j+1):=by simp[ent,Instr.findNow,Instr.sameNow,hb]
   have e2:Rl.look s ((k,n) :: r)=Rl.look s r:=by rw[Rl.look,if_neg h]
   rw[e1,e2];exact z0e s r (i+1) (j+1)
section
variable {P:Program} (w:World)
theorem q6x(mty kt et:TypeId)(r clock i:Nat)(es:Array MapEntry)(s:ByteArray)(val:Value)(hm:P.underlying mty=some (.map kt et))(hk:P.underlying kt=some .string)(hb:w.heap[r]? = some (.map es clock))(hf:Instr.findNow .string (.string s) es.toList 0=some (some (i,val))) :
  (Instr.lookup mty (.map (some r)) (.string s) false).run P w=.ok val w:=by
 have hc:(Instr.checkKey es.isEmpty 10000 kt (.string s)).run P w=.ok () w:=MapKept.run_checkKey (k:=.string s) hk (by simp[MapKept.IsKey]) _ 9999;simp[Instr.lookup,run_underlying hm,MapKept.run_getObj_map hb,hc,MapKept.run_findKey hk hf,Result.andThen]
theorem q8e(mty kt et:TypeId)(r clock:Nat)(es:Array MapEntry)(s:ByteArray)(z:Value)(hm:P.underlying mty=some (.map kt et))(hk:P.underlying kt=some .string)(hb:w.heap[r]? = some (.map es clock))(hf:Instr.findNow .string (.string s) es.toList 0=some none)(hz:(zeroValue et).run P w=.ok z w) :
  (Instr.lookup mty (.map (some r)) (.string s) false).run P w=.ok z w:=by
 have hc:(Instr.checkKey es.isEmpty 10000 kt (.string s)).run P w=.ok () w:=MapKept.run_checkKey (k:=.string s) hk (by simp[MapKept.IsKey]) _ 9999;simp[Instr.lookup,run_underlying hm,MapKept.run_getObj_map hb,hc,MapKept.run_findKey hk hf,hz,Result.andThen]
end
theorem q31(s:ByteArray)(w:World)(r:Nat)(hb:w.heap[r]? = some (.map (putsTo 13) 13)):(Instr.lookup 213 (.map (some r)) (.string s) false).run Tryz.prog w=.ok (.int .i64 (Rl.opOf s)) w:=by
 have e:(putsTo 13).toList=ent Rl.table 0:=by unfold putsTo;rfl
 rcases z0e s Rl.table 0 0 with⟨q,h⟩|⟨h,h0⟩
 ·exact q6x w _ 9 3 r 13 q (putsTo 13) s _ Tryz.underlying213 Tryz.underlying9 hb (by rw[e];exact h)
 ·have hz:(Rl.opOf s)=0:=h0;rw[hz];exact q8e w _ 9 3 r 13 (putsTo 13) s _ Tryz.underlying213 Tryz.underlying9 hb (by rw[e];exact h) (by kernel_rfl)
theorem z9k(w:World):Calls Tryz.prog 161 #[] w fun e w'=>e=.returned (.map (some w.heap.size))∧w.alloc (.map (putsTo 13) 13)=w':=by
 have hmm:=@run_makeMap Tryz.prog;have h0:(Instr.mapUpdate 213 (.map (some w.heap.size)) (.string { data:=#[116,114,117,101] }) (.int .i64 1)).run Tryz.prog (w.alloc (.map #[] 0))=.ok () (w.alloc (.map (putsTo 1) 1)):=(q0n (w.alloc (.map #[] 0)) 213 9 3 w.heap.size 0 #[] { data:=#[116,114,117,101] } (.int .i64 1) Tryz.underlying213 Tryz.underlying9 (World.alloc_heap_new w _) (by kernel_rfl)).trans (by rw[q0r];rfl);have h1:(Instr.mapUpdate 213 (.map (some w.heap.size)) (.string { data:=#[102,97,108,115,101] }) (.int .i64 2)).run Tryz.prog (w.alloc (.map (putsTo 1) 1))=.ok () (w.alloc (.map (putsTo 2) 2)):=(q0n (w.alloc (.map (putsTo 1) 1)) 213 9 3 w.heap.size 1 (putsTo 1) { data:=#[102,97,108,115,101] } (.int .i64 2) Tryz.underlying213 Tryz.underlying9 (World.alloc_heap_new w _) (by kernel_rfl)).trans (by rw[q0r];rfl);have h2:(Instr.mapUpdate 213 (.map (some w.heap.size)) (.string { data:=#[97,110,100] }) (.int .i64 3)).run Tryz.prog (w.alloc (.map (putsTo 2) 2))=.ok () (w.alloc (.map (putsTo 3) 3)):=(q0n (w.alloc (.map (putsTo 2) 2)) 213 9 3 w.heap.size 2 (putsTo 2) { data:=#[97,110,100] } (.int .i64 3) Tryz.underlying213 Tryz.underlying9 (World.alloc_heap_new w _) (by kernel_rfl)).trans (by rw[q0r];rfl);have h3:(Instr.mapUpdate 213 (.map (some w.heap.size)) (.string { data:=#[111,114] }) (.int .i64 4)).run Tryz.prog (w.alloc (.map (putsTo 3) 3))=.ok () (w.alloc (.map (putsTo 4) 4)):=(q0n (w.alloc (.map (putsTo 3) 3)) 213 9 3 w.heap.size 3 (putsTo 3) { data:=#[111,114] } (.int .i64 4) Tryz.underlying213 Tryz.underlying9 (World.alloc_heap_new w _) (by kernel_rfl)).trans (by rw[q0r];rfl);have h4:(Instr.mapUpdate 213 (.map (some w.heap.size)) (.string { data:=#[60,61] }) (.int .i64 5)).run Tryz.prog (w.alloc (.map (putsTo 4) 4))=.ok () (w.alloc (.map (putsTo 5) 5)):=(q0n (w.alloc (.map (putsTo 4) 4)) 213 9 3 w.heap.size 4 (putsTo 4) { data:=#[60,61] } (.int .i64 5) Tryz.underlying213 Tryz.underlying9 (World.alloc_heap_new w _) (by kernel_rfl)).trans (by rw[q0r];rfl);have h5:(Instr.mapUpdate 213 (.map (some w.heap.size)) (.string { data:=#[98,111,116] }) (.int .i64 6)).run Tryz.prog (w.alloc (.map (putsTo 5) 5))=.ok () (w.alloc (.map (putsTo 6) 6)):=(q0n (w.alloc (.map (putsTo 5) 5)) 213 9 3 w.heap.size 5 (putsTo 5) { data:=#[98,111,116] } (.int .i64 6) Tryz.underlying213 Tryz.underlying9 (World.alloc_heap_new w _) (by kernel_rfl)).trans (by rw[q0r];rfl);have h6:(Instr.mapUpdate 213 (.map (some w.heap.size)) (.string { data:=#[116,111,112] }) (.int .i64 7)).run Tryz.prog (w.alloc (.map (putsTo 6) 6))=.ok () (w.alloc (.map (putsTo 7) 7)):=(q0n (w.alloc (.map (putsTo 6) 6)) 213 9 3 w.heap.size 6 (putsTo 6) { data:=#[116,111,112] } (.int .i64 7) Tryz.underlying213 Tryz.underlying9 (World.alloc_heap_new w _) (by kernel_rfl)).trans (by rw[q0r];rfl);have h7:(Instr.mapUpdate 213 (.map (some w.heap.size)) (.string { data:=#[112,99] }) (.int .i64 8)).run Tryz.prog (w.alloc (.map (putsTo 7) 7))=.ok () (w.alloc (.map (putsTo 8) 8)):=(q0n (w.alloc (.map (putsTo 7) 7)) 213 9 3 w.heap.size 7 (putsTo 7) { data:=#[112,99] } (.int .i64 8) Tryz.underlying213 Tryz.underlying9 (World.alloc_heap_new w _) (by kernel_rfl)).trans (by rw[q0r];rfl);have h8:(Instr.mapUpdate 213 (.map (some w.heap.size)) (.string { data:=#[111,110,101] }) (.int .i64 9)).run Tryz.prog (w.alloc (.map (putsTo 8) 8))=.ok () (w.alloc (.map (putsTo 9) 9)):=(q0n (w.alloc (.map (putsTo 8) 8)) 213 9 3 w.heap.size 8 (putsTo 8) { data:=#[111,110,101] } (.int .i64 9) Tryz.underlying213 Tryz.underlying9 (World.alloc_heap_new w _) (by kernel_rfl)).trans (by rw[q0r];rfl);have h9:(Instr.mapUpdate 213 (.map (some w.heap.size)) (.string { data:=#[116,119,111] }) (.int .i64 10)).run Tryz.prog (w.alloc (.map (putsTo 9) 9))=.ok () (w.alloc (.map (putsTo 10) 10)):=(q0n (w.alloc (.map (putsTo 9) 9)) 213 9 3 w.heap.size 9 (putsTo 9) { data:=#[116,119,111] } (.int .i64 10) Tryz.underlying213 Tryz.underlying9 (World.alloc_heap_new w _) (by kernel_rfl)).trans (by rw[q0r];rfl);have h10:(Instr.mapUpdate 213 (.map (some w.heap.size)) (.string { data:=#[116,104,114,101,101] }) (.int .i64 11)).run Tryz.prog (w.alloc (.map (putsTo 10) 10))=.ok () (w.alloc (.map (putsTo 11) 11)):=(q0n (w.alloc (.map (putsTo 10) 10)) 213 9 3 w.heap.size 10 (putsTo 10) { data:=#[116,104,114,101,101] } (.int .i64 11) Tryz.underlying213 Tryz.underlying9 (World.alloc_heap_new w _) (by kernel_rfl)).trans (by rw[q0r];rfl);have h11:(Instr.mapUpdate 213 (.map (some w.heap.size)) (.string { data:=#[106,111,105,110] }) (.int .i64 12)).run Tryz.prog (w.alloc (.map (putsTo 11) 11))=.ok () (w.alloc (.map (putsTo 12) 12)):=(q0n (w.alloc (.map (putsTo 11) 11)) 213 9 3 w.heap.size 11 (putsTo 11) { data:=#[106,111,105,110] } (.int .i64 12) Tryz.underlying213 Tryz.underlying9 (World.alloc_heap_new w _) (by kernel_rfl)).trans (by rw[q0r];rfl);have h12:(Instr.mapUpdate 213 (.map (some w.heap.size)) (.string { data:=#[109,101,101,116] }) (.int .i64 13)).run Tryz.prog (w.alloc (.map (putsTo 12) 12))=.ok () (w.alloc (.map (putsTo 13) 13)):=(q0n (w.alloc (.map (putsTo 12) 12)) 213 9 3 w.heap.size 12 (putsTo 12) { data:=#[109,101,101,116] } (.int .i64 13) Tryz.underlying213 Tryz.underlying9 (World.alloc_heap_new w _) (by kernel_rfl)).trans (by rw[q0r];rfl);go_enter Tryz.func161,Tryz.ntmps161;go_wp2;go_ret;exact⟨rfl,rfl⟩
theorem q13{P:Program}{ops:Array Oper}{o:Oper}{a:Act}{w:World}{K:Act→World→Prop}{Q:Exit→Act→World→Prop}{E:Prop}(hgd:o.guard=none)(s x:Operand)(t:TypeId)(ho:o.op=.call { callee:=.builtin .append,args:=#[s,x],argTypes:=#[t,t] })(base:Nat)(e:TypeId)(i:TypeInfo)(z:Value)(size bytes:Nat)(ht:P.underlying t=some (.slice e))(hi:P.info? e=some i)(hz:i.zero=some z)(hsize:i.size=size)(hby:i.bytes=bytes)(hzs:z.cells.size=size)(hsz:0<size)(v:Value)(n:Nat)(xs:List Value)(hs:a.eval s=v)(hown:w.ownsRow base e size v n xs)(ad:Addr)(m c:Nat)(news:List Value)(hx:a.eval x=.slice (some ad) m c)(hn:news.length=m*size)(hc:∀ j u,news[j]? = some u→w.cell? (ad.add j)=some u)(h1:∀ u ∈ news,u.oneCell'=true)(h63:n+m≤maxLen)(hbytes:(n+m)*bytes≤140737488355328)(hbase:base≤w.heap.size)(h:∀ v' w',w'.ownsRow base e size v' (n+m) (xs++news)→w.grownBy w' v.ownBlock→(v'.ownBlock=v.ownBlock∨v'.ownBlock=some w.heap.size)→K (a.put o.dst v') w') :
  if Region.wanted o (yielded ops a.tmps)=true then Oper.wp P o a w K Q else E:=by
 have hw:Region.wanted o (yielded ops a.tmps)=true:=by simp[Region.wanted,hgd]
 rw[if_pos hw];obtain⟨v',w',hrun,h2,h3,_,h5⟩:=run_append_own_at (P:=P) w base t o.type e i z size bytes ht hi hz hsize hby hzs hsz v n xs hown ad m c news hn hc h1 h63 hbytes hbase;unfold Oper.wp execOp;simp only[ho,resolve,invoke,builtin,Sem.run_bind,Sem.run_pure,Result.andThen_ok,List.map_toArray,List.map_cons,List.map_nil,hs,hx,hrun];exact h v' w' h2 h3 h5
def Safe(R:Nat)(rv:Value)(W:World)(k:Nat):Prop:=k<W.heap.size∧k≠R∧some k≠rv.ownBlock
structure Still (R:Nat) (rv rv':Value) (w w':World):Prop where
 os:w'.os=w.os
 tape:w'.tape=w.tape
 output:w'.output=w.output
 size:w.heap.size≤w'.heap.size
 block:∀ k,Safe R rv w k→w'.heap[k]? = w.heap[k]?
 own:rv'.ownBlock=rv.ownBlock∨∃ k,rv'.ownBlock=some k∧w.heap.size≤k
section
variable {R k:Nat} {rv rv' rv2:Value} {a w w' w2:World}
theorem Still.refl(R:Nat)(rv:Value)(w:World):Still R rv rv w w:=⟨rfl,rfl,rfl,Nat.le_refl _,fun _ _=>rfl,.inl rfl⟩
theorem Still.safe(h:Still R rv rv' w w')(hs:Safe R rv w k):Safe R rv' w' k:=by
 refine⟨Nat.lt_of_lt_of_le hs.1 h.size,hs.2.1,?_⟩;rcases h.own with e|⟨j,e,hj⟩
 ·rw[e];exact hs.2.2
 ·rw[e];intro e2;injection e2 with e2;have:=hs.1;omega
theorem Still.trans(h:Still R rv rv' a w)(h2:Still R rv' rv2 w w2):Still R rv rv2 a w2:=by
 refine⟨h2.os.trans h.os,h2.tape.trans h.tape,h2.output.trans h.output,Nat.le_trans h.size h2.size,fun k hk=>(h2.block k (h.safe hk)).trans (h.block k hk),?_⟩;rcases h2.own with e|⟨j,e,hj⟩
 ·rw[e];exact h.own
 ·exact .inr ⟨j,e,Nat.le_trans h.size hj⟩
theorem Still.alloc(h:Still R rv rv' a w)(o:Obj):Still R rv rv' a (w.alloc o) :=
 h.trans ⟨rfl,rfl,rfl,by simp,fun k hk=>Below.heap_alloc _ _ _ hk.1,.inl rfl⟩
theorem Still.drew(h:Still R rv rv' a w):Still R rv rv' a w.drew:=⟨h.os,h.tape,h.output,h.size,h.block,h.own⟩
theorem Still.drewN(h:Still R rv rv' a w)(n:Nat):Still R rv rv' a (w.drewN n):=⟨h.os,h.tape,h.output,h.size,h.block,h.own⟩
theorem Still.setR(h:Still R rv rv' a w){p:Addr}(hp:p.block=R)(u:Value):Still R rv rv' a (w.setCell p u) :=
 h.trans ⟨rfl,rfl,rfl,by simp[World.setCell],fun k hk=>Below.heap_setCell _ _ _ _ (by rw[hp];exact hk.2.1),.inl rfl⟩
theorem Still.grown(h:Still R rv rv' a w)(hg:w.grownBy w' rv'.ownBlock)(ho:rv2.ownBlock=rv'.ownBlock∨rv2.ownBlock=some w.heap.size):Still R rv rv2 a w' :=
 h.trans ⟨hg.os,hg.tape,hg.output,hg.size,fun k hk=>hg.block k hk.1 hk.2.2,ho.imp id fun e=>⟨_,e,Nat.le_refl _⟩⟩
theorem Still.below(h:Below w.heap.size w w')(rv:Value):Still R rv rv w w':=⟨h.os,h.tape,h.output,h.size,fun k hk=>h.block k hk.1,.inl rfl⟩
end
def SRow(R:Nat)(rv:Value)(W:World)(A:Option Addr)(xs:List Value):Prop:=xs≠[]→∃ ad,A=some ad∧Safe R rv W ad.block∧∀ j u,xs[j]? = some u→W.cell? (ad.add j)=some u
section
variable {R:Nat} {rv rv':Value} {w w':World} {A:Option Addr} {xs:List Value}
theorem SRow.still(h:SRow R rv w A xs)(hs:Still R rv rv' w w'):SRow R rv' w' A xs:=fun hn=>by
 obtain⟨ad,e,hb,hc⟩:=h hn
 exact⟨ad,e,hs.safe hb,fun j u hu=>(World.cell?_of_block (w:=w) (hs.block _ (by rw[q0a];exact hb))).trans (hc j u hu)⟩
theorem SRow.row(h:SRow R rv w A xs):Row w w.heap.size A xs:=fun hn=>by
 obtain⟨ad,e,hb,hc⟩:=h hn
 exact⟨ad,e,hb.1,hc⟩
end
def ints(l:List Int):List Value:=l.map (Value.int .i64)
theorem q36(l:List Int)(n:Int):ints (l++[n])=ints l++[.int .i64 n]:=by simp[ints]
theorem z2k(l:List Int):(ints l).length=l.length:=by simp[ints]
theorem Tryz.infoInt:(Tryz.prog.info? 3).map (fun i=>(i.zero,i.size,i.bytes))=some (some (.int .i64 0),1,8):=by kernel_rfl
structure Rd (R M:Nat) (A:Option Addr) (c:Nat) (l:List Lx.Tk) (s:Rl.St) (rv:Value) (W:World):Prop where
 blk:Blk W R 216 #[.slice A l.length c,.int .i64 s.pos,.int .i64 s.deep,rv,.map (some M)]
 own:W.ownsRow (R+1) 3 1 rv s.out.length (ints s.out)
 toks:SRow R rv W A (tcells l)
 map:W.heap[M]? = some (.map (putsTo 13) 13)
 safe:Safe R rv W M
section
variable {R M c:Nat} {A:Option Addr} {l:List Lx.Tk} {s:Rl.St} {rv rv':Value} {w w':World}
theorem Rd.still(h:Rd R M A c l s rv w)(hs:Still R rv rv' w w'){s':Rl.St}(hb:Blk w' R 216 #[.slice A l.length c,.int .i64 s'.pos,.int .i64 s'.deep,rv',.map (some M)])(ho:w'.ownsRow (R+1) 3 1 rv' s'.out.length (ints s'.out)):Rd R M A c l s' rv' w' :=
 ⟨hb,ho,h.toks.still hs,(hs.block M h.safe).trans h.map,hs.safe h.safe⟩
theorem Rd.kept(h:Rd R M A c l s rv w)(hb:Below w.heap.size w w'):Rd R M A c l s rv w' :=
 h.still (.below hb rv) (h.blk.below hb h.blk.lt) (q1l h.own hb)
theorem Rd.lt(h:Rd R M A c l s rv w):R<w.heap.size:=h.blk.lt
theorem Rd.set_(h:Rd R M A c l s rv w){i:Nat}{u:Value}{s':Rl.St}(hc:(#[Value.slice A l.length c,.int .i64 s.pos,.int .i64 s.deep,rv,.map (some M)]:Array Value).setIfInBounds i u=#[.slice A l.length c,.int .i64 s'.pos,.int .i64 s'.deep,rv,.map (some M)])(ho:s'.out=s.out) :
  Rd R M A c l s' rv (w.setCell ⟨R,i,none⟩ u) :=
 h.still ((Still.refl R rv w).setR rfl u) (hc▸h.blk.set_ i u) (by rw[ho];exact ownsRow_setCell_below h.own (by simp) u)
end
def Told(R M:Nat)(A:Option Addr)(c:Nat)(l:List Lx.Tk)(rv:Value)(w:World)(r:Rl.Res)(e:Ending)(w':World):Prop :=
 ∃ rv',e=.returned (.int .i64 (r.2:Nat))∧Rd R M A c l r.1 rv' w'∧Still R rv rv' w w'
theorem j1z{l:List Lx.Tk}{k:Nat}{t:Lx.Tk}(h:l[k]? = some t)(x:ByteArray):Rl.isN l k x=decide ((t.kind=1∨t.kind=3)∧t.text=x):=by
 unfold Rl.isN;rw[h]
theorem q4v(a b:ByteArray):(a.toList==b.toList)=decide (a=b):=by
 rw[Bool.eq_iff_iff,decide_eq_true_eq,beq_iff_eq,Lib.toList_data,Lib.toList_data];constructor
 ·intro e;rw[←Lib.mk_data a,←Lib.mk_data b,e]
 ·intro e;rw[e]
theorem q3s{R M c : Nat}{A : Option Addr}{l : List Lx.Tk}{s : Rl.St}{rv : Value}(x : ByteArray)(w : World)(h : Rd R M A c l s rv w)(hp : s.pos < l.length)(_ : l.length ≤ 1000000) :
    Calls Tryz.prog 187 #[.pointer (some ⟨R, 0, none⟩), .string x] w fun e w' => e = .returned (.bool (Rl.isN l s.pos x)) ∧ Below w.heap.size w w' := by
  obtain ⟨ad, t, rfl, hb, ht, t0, t1, t2⟩ := q3e h.toks.row hp;have hn := j1z ht x;have c0 : w.cell? ⟨R, 0, none⟩ = some (.slice (some ad) l.length c) := by rw [h.blk.cell]; rfl
  have c1 : w.cell? ⟨R, 1, none⟩ = some (.int .i64 s.pos) := by rw [h.blk.cell]; rfl
  have hblk : (ad.add (s.pos * 3)).block < w.heap.size := by rw [q0a]; exact hb
  have HN := η hn;have hR := h.lt;have H := η h;clear hn ht h;obtain ⟨kd, y, ps⟩ := t;dsimp only at t0 t1 t2;go_enter Tryz.func187, Tryz.ntmps187;go_wp2;go_region;go_wp2;all_goals
    go_ret;refine ⟨retb ?_, ((Below.refl _ _).alloc (Nat.le_refl _) _).drew⟩;rw [HN.out];first
      | (rw [q4v, Bool.eq_iff_iff, decide_eq_true_eq, decide_eq_true_eq]; constructor
         · intro e; exact ⟨by omega, e⟩
         · intro e; exact e.2)
      | (symm; rw [decide_eq_false_iff_not]; rintro ⟨e, _⟩; omega)
def Went(R M:Nat)(A:Option Addr)(c:Nat)(l:List Lx.Tk)(rv:Value)(w:World)(b:Bool)(s:Rl.St)(e:Ending)(w':World):Prop :=
 e=.returned (.bool b)∧Rd R M A c l s rv w'∧Still R rv rv w w'
theorem Rd.facts{R M c:Nat}{A:Option Addr}{l:List Lx.Tk}{s:Rl.St}{rv:Value}{w:World}(h:Rd R M A c l s rv w) :
  (w.cell? ⟨R,0,none⟩=some (.slice A l.length c)∧w.cell? ⟨R,1,none⟩=some (.int .i64 s.pos)∧w.cell? ⟨R,2,none⟩=some (.int .i64 s.deep)∧w.cell? ⟨R,3,none⟩=some rv∧w.cell? ⟨R,4,none⟩=some (.map (some M))) ∧
  (w.frozen? ⟨R,1,none⟩=false∧w.frozen? ⟨R,2,none⟩=false∧w.frozen? ⟨R,3,none⟩=false) :=
 ⟨⟨by rw[h.blk.cell];rfl,by rw[h.blk.cell];rfl,by rw[h.blk.cell];rfl,by rw[h.blk.cell];rfl,by rw[h.blk.cell];rfl⟩,h.blk.frozen _,h.blk.frozen _,h.blk.frozen _⟩
theorem q3d{R M c:Nat}{A:Option Addr}{l:List Lx.Tk}{s:Rl.St}{rv:Value}(x:ByteArray)(w:World)(h:Rd R M A c l s rv w)(hp:s.pos<l.length)(hl:l.length≤1000000)(hn:Rl.isN l s.pos x=false) :
  Calls Tryz.prog 185 #[.pointer (some ⟨R,0,none⟩),.string x] w (Went R M A c l rv w false s):=by
 have hc:=q3s x w h hp hl;rw[hn] at hc;have HC:=η hc;have H:=η h;clear hc hn h;go_enter Tryz.func185,Tryz.ntmps185;go_wp2_with (fail);refine HC.out.mono ?_;rintro e w1 ⟨rfl,hb⟩;have HB:=η hb;clear hb;go_wp2;go_ret;exact⟨rfl,H.out.kept HB.out,.below HB.out rv⟩
theorem q2f{R M c:Nat}{A:Option Addr}{l:List Lx.Tk}{s:Rl.St}{rv:Value}(x:ByteArray)(w:World)(h:Rd R M A c l s rv w)(hp:s.pos<l.length)(hl:l.length≤1000000)(hn:Rl.isN l s.pos x=true) :
  Calls Tryz.prog 185 #[.pointer (some ⟨R,0,none⟩),.string x] w (Went R M A c l rv w true (Rl.adv s)):=by
 have hc:=q3s x w h hp hl;rw[hn] at hc;have HC:=η hc;have H:=η h;clear hc hn h;go_enter Tryz.func185,Tryz.ntmps185;go_wp2_with (fail);refine HC.out.mono ?_;rintro e w1 ⟨rfl,hb⟩;have h1:=H.out.kept hb;obtain⟨⟨c0,c1,c2,c3,c4⟩,f1,f2,f3⟩:=h1.facts;have HB:=η hb;have H1:=η h1;clear hb h1 c0 c2 c3 c4 f2 f3;go_wp2;go_ret;exact⟨rfl,H1.out.set_ (s':=Rl.adv s) rfl rfl,(Still.below HB.out rv).setR (p:=⟨R,1,none⟩) rfl _⟩
theorem z9i{R M c:Nat}{A:Option Addr}{l:List Lx.Tk}{s:Rl.St}{rv:Value}(x:ByteArray)(w:World)(h:Rd R M A c l s rv w)(ho:s.out.length=40) :
  Calls Tryz.prog 186 #[.pointer (some ⟨R,0,none⟩),.string x] w (Told R M A c l rv w (s,8)):=by
 obtain⟨⟨c0,c1,c2,c3,c4⟩,f1,f2,f3⟩:=h.facts;obtain⟨A1,cap,rfl⟩:=q0b h.own;have H:=η h;have HO:Hid (s.out.length=40):=ho;have hlen:(s.out.length:Int)=40:=by omega
 clear h c0 c1 c2 c4 ho;go_enter Tryz.func186,Tryz.ntmps186;go_wp2;go_ret;exact⟨_,rfl,H.out,Still.refl _ _ _⟩
theorem z78{W W':World}{o:Obj}{g:Nat}{t:TypeId}{cs:Array Value}{row:Option Nat}(hb:Blk W g t cs)(hne:some g≠row)(hgr:((W.alloc o).drew).grownBy W' row):Blk W' g t cs :=
 (hgr.block g (hb.alloc o).lt hne).trans (hb.alloc o)
theorem j15{W:World}{v:Value}{g n:Nat}{e:TypeId}{xs:List Value}(hown:W.ownsRow (g+1) e 1 v n xs):some g≠v.ownBlock:=fun he=>by
 have:=(hown.lt g he.symm).1
 omega
theorem cell_one_new(w:World)(t:TypeId)(u:Value):∀ j v,[u][j]? = some v→(w.alloc (.cells #[u] t)).drew.cell? ((⟨w.heap.size,0,none⟩:Addr).add j)=some v:=fun j v hv=>q04 w [u] t j v hv
theorem z9j{R M c:Nat}{A:Option Addr}{l:List Lx.Tk}{s:Rl.St}{rv:Value}(x:ByteArray)(w:World)(h:Rd R M A c l s rv w)(ho:s.out.length<40) :
  Calls Tryz.prog 186 #[.pointer (some ⟨R,0,none⟩),.string x] w (Told R M A c l rv w ({ s with out:=s.out++[Rl.opOf x] },0)):=by
 obtain⟨⟨c0,c1,c2,c3,c4⟩,f1,f2,f3⟩:=h.facts;have hown:=h.own;have hlook:=q31 x w M h.map;have hlook2:=q31 x w.drew M h.map;have hblk:=h.blk;have hne2:=j15 h.own;obtain⟨A1,cap,rfl⟩:=q0b h.own;obtain⟨i0,hi,hz0,hz1,hz2⟩:=info_parts Tryz.infoInt;have H:=η h;have hne:((s.out.length:Int)==40)=false:=by rw[beq_eq_false_iff_ne];omega
 have hR:=h.lt;clear h c0 c1 c2;go_enter Tryz.func186,Tryz.ntmps186;go_wp2;go_region_law (refine q13 rfl (.tmp 15) (.tmp 22) 53 rfl (R+1) 3 i0 (.int .i64 0) 1 8 Tryz.underlying53 hi hz0 hz1 hz2 rfl (by decide) (.slice A1 s.out.length cap) s.out.length (ints s.out) (by simp[Act.eval]) (by exact hown.alloc _) ⟨w.heap.size,0,none⟩ 1 1 [.int .i64 (Rl.opOf x)] (by simp[Act.eval]) rfl (by exact cell_one_new _ _ _) (by simp[Value.oneCell']) (by unfold maxLen;omega) (by omega) (by simp;omega) ?_;intro v' w' hown' hgrow hob;obtain⟨g',cap',rfl⟩:=ownsRow_succ hown';have hb2:=z78 hblk hne2 hgrow;have hcz:w'.cell? ⟨R,3,none⟩=some (.slice A1 s.out.length cap):=(by rw[hb2.cell];rfl);have hfz:=hb2.frozen 3);all_goals go_wp2
 all_goals
  go_ret;have hst:=(((Still.refl R _ w).alloc _).drew.grown hgrow hob).setR (p:=⟨R,3,none⟩) rfl (.slice (some ⟨g',0,none⟩) (s.out.length+1) cap');refine⟨_,rfl,H.out.still hst (s':={ s with out:=s.out++[Rl.opOf x] }) (hb2.set_ 3 _) ?_,hst⟩;rw[q36,List.length_append];exact ownsRow_setCell_below hown' (by simp) _
theorem q3v{R M c:Nat}{A:Option Addr}{l:List Lx.Tk}{s:Rl.St}{rv:Value}(x:ByteArray)(w:World)(h:Rd R M A c l s rv w)(ho:s.out.length≤40) :
  Calls Tryz.prog 186 #[.pointer (some ⟨R,0,none⟩),.string x] w (Told R M A c l rv w (Rl.put (Rl.opOf x) s)):=by
 unfold Rl.put;by_cases h40:s.out.length=40
 ·rw[if_pos h40];exact z9i x w h h40
 ·rw[if_neg h40];exact z9j x w h (by omega)
def bools(l:List Bool):List Value:=l.map Value.bool
theorem q4w(l:List Bool)(b:Bool):bools (l++[b])=bools l++[.bool b]:=by simp[bools]
theorem z4e(l:List Bool)(k:Nat):(bools l).take k=bools (l.take k):=by simp[bools,List.map_take]
theorem Tryz.infoBool:(Tryz.prog.info? 4).map (fun i=>(i.zero,i.size,i.bytes))=some (some (.bool false),1,1):=by kernel_rfl
theorem q29{W:World}{base n k cap g:Nat}{e:TypeId}{xs:List Value}(h:W.ownsRow base e 1 (.slice (some ⟨g,0,none⟩) n cap) n xs)(hk:k≤n):W.ownsRow base e 1 (.slice (some ⟨g,0,none⟩) k cap) k (xs.take k):=by
 obtain⟨h1,h2⟩:=h;rcases h2 with⟨he,_⟩|⟨g',cap',cur,he,hb,hh,hkc,hcm,hcs,ht⟩
 ·cases he
 ·injection he with e1 e2 e3;injection e1 with e1;injection e1 with e1;subst e1 e3;refine⟨by rw[List.length_take,h1];omega,.inr ⟨_,_,cur,rfl,hb,hh,by omega,hcm,hcs,?_⟩⟩;rw[←ht,List.take_take]
  congr 1
  omega
theorem q1g{W:World}{base n cap g:Nat}{e:TypeId}{xs:List Value}(h:W.ownsRow base e 1 (.slice (some ⟨g,0,none⟩) n cap) n xs){j:Nat}{u:Value}(hj:xs[j]? = some u):W.cell? ⟨g,j,none⟩=some u:=by
 have h1:=h.cells rfl j u hj;have e:(⟨g,0,none⟩:Addr).add j=⟨g,j,none⟩:=by unfold Addr.add;split<;>simp_all
 rwa [e] at h1
theorem q1y{W:World}{base n:Nat}{v:Value}{e:TypeId}{xs:List Value}(h:W.ownsRow base e 1 v n xs)(hn:0<n):∃ g cap,v=.slice (some ⟨g,0,none⟩) n cap∧base≤g:=by
 rcases h.2 with⟨_,h0⟩|⟨g,cap,cur,he,hb,_⟩
 ·omega
 ·exact⟨g,cap,he,hb⟩
def Pile(base:Nat)(W:World)(v:Value)(q:List Bool):Prop:=W.ownsRow base 4 1 v q.length (bools q)
def PileOk(base:Nat)(w:World)(q:List Bool)(e:Ending)(w':World):Prop:=∃ v,e=.returned (.tuple #[v,.bool true])∧Pile base w' v q∧Below base w w'
def PileNo(base:Nat)(w:World)(e:Ending)(w':World):Prop:=e=.returned (.tuple #[.slice none 0 0,.bool false])∧Below base w w'
theorem z1p{q:List Bool}{a b:Bool}{n:Nat}(hn:q.length=n+2)(h:¬(q[n]? = some a∧q[n+1]? = some a)):Rl.two q a b=none:=by
 unfold Rl.two;rw[hn,show n+2-2=n by omega,show n+2-1=n+1 by omega,if_neg];exact fun h1=>h h1.2
theorem q84{q:List Bool}{a b:Bool}{n:Nat}(hn:q.length=n+2)(h:q[n]? = some a)(h1:q[n+1]? = some a):Rl.two q a b=some (q.take n++[b]):=by
 unfold Rl.two;rw[hn,show n+2-2=n by omega,show n+2-1=n+1 by omega,if_pos ⟨by omega,h,h1⟩]
theorem q83{q:List Bool}{a b:Bool}(hn:q.length<2):Rl.two q a b=none:=by
 unfold Rl.two;rw[if_neg];rintro⟨h,_⟩;omega
theorem z89{base : Nat}{q : List Bool}{v : Value}(a b : Bool)(w : World)(h : Pile base w v q)(hl : q.length ≤ 1000000)(hn : Rl.two q a b = none) : Calls Tryz.prog 179 #[v, .bool a, .bool b] w (PileNo base w) := by
  by_cases hs : q.length < 2
  · obtain ⟨A, cap, rfl⟩ := q0b h
    clear hn h;have h0 : (q.length : Int) - 2 < 0 := by omega
    go_enter Tryz.func179, Tryz.ntmps179;go_wp2;go_ret2;exact ⟨rfl, Below.refl _ _⟩
  · obtain ⟨n, hq⟩ : ∃ n, q.length = n + 2 := ⟨q.length - 2, by omega⟩
    obtain ⟨g, cap, rfl, hbg⟩ := q1y h (by omega);have hx0 : q[n]? = some q[n] := List.getElem?_eq_getElem (by omega);have hx1 : q[n + 1]? = some q[n + 1] := List.getElem?_eq_getElem (by omega);obtain ⟨x0, e0⟩ : ∃ x, q[n] = x := ⟨_, rfl⟩;obtain ⟨x1, e1⟩ : ∃ x, q[n + 1] = x := ⟨_, rfl⟩;rw [e0] at hx0;rw [e1] at hx1;have c0 := q1g h (j := n) (u := .bool x0) (by simp [bools, hx0]);have c1 := q1g h (j := n + 1) (u := .bool x1) (by simp [bools, hx1]);have hne : ¬ (x0 = a ∧ x1 = a) := fun ⟨i0, i1⟩ => by
      rw [q84 hq (by rw [hx0, i0]) (by rw [hx1, i1])] at hn;cases hn
    have hnb : n ≤ 1000000 := by omega
    rw [hq];clear h hn hx0 hx1 e0 e1 hs hl hq;cases a <;> cases x0 <;> cases x1
    all_goals first
      | (exfalso; exact hne ⟨rfl, rfl⟩)
      | (clear hne
         go_enter Tryz.func179, Tryz.ntmps179;go_wp2;go_ret2
         exact ⟨rfl, Below.refl _ _⟩)
theorem z9a{base:Nat}{q r:List Bool}{v:Value}(a b:Bool)(w:World)(h:Pile base w v q)(hB:base≤w.heap.size)(hl:q.length≤1000000)(hn:Rl.two q a b=some r):Calls Tryz.prog 179 #[v,.bool a,.bool b] w (PileOk base w r):=by
 have hs:¬q.length<2:=fun hs=>by rw[q83 hs] at hn;cases hn
 obtain⟨n,hq⟩:∃ n,q.length=n+2:=⟨q.length-2,by omega⟩;obtain⟨g,cap,rfl,hbg⟩:=q1y h (by omega);have hx:q[n]? = some a∧q[n+1]? = some a:=Classical.byContradiction fun hx=>by rw[z1p hq hx] at hn;cases hn
 obtain⟨hx0,hx1⟩:=hx;rw[q84 hq hx0 hx1] at hn;injection hn with hn;have c0:=q1g h (j:=n) (u:=.bool a) (by simp[bools,hx0]);have c1:=q1g h (j:=n+1) (u:=.bool a) (by simp[bools,hx1]);have hown:=q29 h (k:=n) (by omega);rw[z4e] at hown;have hne:(a != a)=false:=by simp
 have hnb:n≤1000000:=by omega
 have hcap:n+2≤cap:=by have:=(ownT_row h).2;omega
 obtain⟨i0,hi,hz0,hz1,hz2⟩:=info_parts Tryz.infoBool;have HR:=η hn;have HQ:Hid ((q.take n).length=n):=by unfold Hid;rw[List.length_take];omega
 rw[hq];clear h hx0 hx1 hn hs hl hq hne;cases a;all_goals
  go_enter Tryz.func179,Tryz.ntmps179;go_wp2_with (at_builtin;refine wpList_append_own _ rfl _ _ 186 rfl base 4 i0 (.bool false) 1 1 Tryz.underlying186 hi hz0 hz1 hz2 rfl (by decide) _ _ _ rfl (hown.alloc _) ⟨w.heap.size,0,none⟩ 1 1 [.bool b] rfl rfl (q04 _ _ _) (by simp[Value.oneCell']) (by unfold maxLen;omega) (by omega) (by simp;omega) ?_);intro v' w' hown' hgrow _;have hown2:Pile base w' v' r:=by
   unfold Pile;rw[←HR.out,q4w,List.length_append,HQ.out];exact hown'
  have hb:Below base w w':=((Below.refl _ w).alloc hB _).grown hgrow (by simp;omega) (fun k he=>(hown.lt k he).1);have HO:=η hown2;have HB:=η hb;clear hown hown' hown2 hgrow hb;go_wp2;go_ret2;exact⟨_,rfl,HO.out,HB.out⟩
theorem z03{base:Nat}{q:List Bool}{v:Value}(n:Int)(b:Bool)(hn:(n=1∨n=2)∧b=false∨(n=6∨n=7∨n=8∨n=9∨n=10∨n=11)∧b=true)(w:World)(h:Pile base w v q)(hB:base≤w.heap.size)(hl:q.length≤1000000) :
  Calls Tryz.prog 164 #[v,.int .i64 n] w (PileOk base w (q++[b])):=by
 obtain⟨i0,hi,hz0,hz1,hz2⟩:=info_parts Tryz.infoBool;have hown:w.ownsRow base 4 1 v q.length (bools q):=h;clear h;rcases hn with⟨h1,rfl⟩|⟨h1,rfl⟩
 ·rcases h1 with rfl|rfl;all_goals
   go_enter Tryz.func164,Tryz.ntmps164;go_wp2_with (at_builtin;refine wpList_append_own _ rfl _ _ 186 rfl base 4 i0 (.bool false) 1 1 Tryz.underlying186 hi hz0 hz1 hz2 rfl (by decide) _ _ _ rfl (hown.alloc _) ⟨w.heap.size,0,none⟩ 1 1 [.bool false] rfl rfl (q04 _ _ _) (by simp[Value.oneCell']) (by unfold maxLen;omega) (by omega) (by simp;omega) ?_);intro v' w' hown' hgrow _;have hown2:Pile base w' v' (q++[false]):=by
    unfold Pile;rw[q4w,List.length_append];exact hown'
   have hb:Below base w w':=((Below.refl _ w).alloc hB _).grown hgrow (by simp;omega) (fun k he=>(hown.lt k he).1);have HO:=η hown2;have HB:=η hb;clear hown hown' hown2 hgrow hb;go_wp2;go_ret2;exact⟨_,rfl,HO.out,HB.out⟩
 ·rcases h1 with rfl|rfl|rfl|rfl|rfl|rfl;all_goals
   go_enter Tryz.func164,Tryz.ntmps164;go_wp2_with (at_builtin;refine wpList_append_own _ rfl _ _ 186 rfl base 4 i0 (.bool false) 1 1 Tryz.underlying186 hi hz0 hz1 hz2 rfl (by decide) _ _ _ rfl (hown.alloc _) ⟨w.heap.size,0,none⟩ 1 1 [.bool true] rfl rfl (q04 _ _ _) (by simp[Value.oneCell']) (by unfold maxLen;omega) (by omega) (by simp;omega) ?_);intro v' w' hown' hgrow _;have hown2:Pile base w' v' (q++[true]):=by
    unfold Pile;rw[q4w,List.length_append];exact hown'
   have hb:Below base w w':=((Below.refl _ w).alloc hB _).grown hgrow (by simp;omega) (fun k he=>(hown.lt k he).1);have HO:=η hown2;have HB:=η hb;clear hown hown' hown2 hgrow hb;go_wp2;go_ret2;exact⟨_,rfl,HO.out,HB.out⟩
theorem q27{base:Nat}{q:List Bool}{v:Value}(n:Int)(a b:Bool)(hn:(n=3∨n=4)∧a=false∧b=false∨n=5∧a=true∧b=false∨(n=12∨n=13)∧a=true∧b=true)(w:World)(h:Pile base w v q)(hB:base≤w.heap.size)(hl:q.length≤1000000) :
  (∀ r,Rl.two q a b=some r→Calls Tryz.prog 164 #[v,.int .i64 n] w (PileOk base w r))∧(Rl.two q a b=none→Calls Tryz.prog 164 #[v,.int .i64 n] w (PileNo base w)):=by
 have h1:=fun r hr=>z9a (r:=r) a b w h hB hl hr
 have h2:=fun hr=>z89 a b w h hl hr
 clear h;constructor
 ·intro r hr;have HC:=η (h1 r hr);clear h1 h2 hr;rcases hn with⟨rfl|rfl,rfl,rfl⟩|⟨rfl,rfl,rfl⟩|⟨rfl|rfl,rfl,rfl⟩;all_goals
   go_enter Tryz.func164,Tryz.ntmps164;go_wp2_with (fail);refine HC.out.mono ?_;rintro e w1 ⟨v1,rfl,hp,hb⟩;have HP:=η hp;have HB:=η hb;clear hp hb;go_wp2;go_ret2;exact⟨_,rfl,HP.out,HB.out⟩
 ·intro hr;have HC:=η (h2 hr);clear h1 h2 hr;rcases hn with⟨rfl|rfl,rfl,rfl⟩|⟨rfl,rfl,rfl⟩|⟨rfl|rfl,rfl,rfl⟩;all_goals
   go_enter Tryz.func164,Tryz.ntmps164;go_wp2_with (fail);refine HC.out.mono ?_;rintro e w1 ⟨rfl,hb⟩;have HB:=η hb;clear hb;go_wp2;go_ret2;exact⟨rfl,HB.out⟩
theorem z57{base:Nat}{v:Value}(n:Int)(hn:n<1∨13<n)(w:World):Calls Tryz.prog 164 #[v,.int .i64 n] w (PileNo base w):=by
 have h1:(n==1)=false:=by rw[beq_eq_false_iff_ne];omega
 have h2:(n==2)=false:=by rw[beq_eq_false_iff_ne];omega
 have h3:(n==3)=false:=by rw[beq_eq_false_iff_ne];omega
 have h4:(n==4)=false:=by rw[beq_eq_false_iff_ne];omega
 have h5:(n==5)=false:=by rw[beq_eq_false_iff_ne];omega
 have h6:(n==6)=false:=by rw[beq_eq_false_iff_ne];omega
 have h7:(n==7)=false:=by rw[beq_eq_false_iff_ne];omega
 have h8:(n==8)=false:=by rw[beq_eq_false_iff_ne];omega
 have h9:(n==9)=false:=by rw[beq_eq_false_iff_ne];omega
 have h10:(n==10)=false:=by rw[beq_eq_false_iff_ne];omega
 have h11:(n==11)=false:=by rw[beq_eq_false_iff_ne];omega
 have h12:(n==12)=false:=by rw[beq_eq_false_iff_ne];omega
 have h13:(n==13)=false:=by rw[beq_eq_false_iff_ne];omega
 clear hn;go_enter Tryz.func164,Tryz.ntmps164;go_wp2;go_ret2;exact⟨rfl,Below.refl _ _⟩
theorem j0u{base:Nat}{q r:List Bool}{v:Value}(n:Int)(w:World)(h:Pile base w v q)(hB:base≤w.heap.size)(hl:q.length≤1000000)(hs:Rl.step q n=some r):Calls Tryz.prog 164 #[v,.int .i64 n] w (PileOk base w r):=by
 unfold Rl.step at hs;split at hs
 ·rename_i h1;injection hs with hs;subst hs;exact z03 n false (.inl ⟨h1,rfl⟩) w h hB hl
 ·split at hs
  ·rename_i h1;injection hs with hs;subst hs;exact z03 n true (.inr ⟨by omega,rfl⟩) w h hB hl
  ·split at hs
   ·rename_i h1;exact(q27 n false false (.inl ⟨h1,rfl,rfl⟩) w h hB hl).1 r hs
   ·split at hs
    ·rename_i h1;exact(q27 n true false (.inr (.inl ⟨h1,rfl,rfl⟩)) w h hB hl).1 r hs
    ·split at hs
     ·rename_i h1;exact(q27 n true true (.inr (.inr ⟨h1,rfl,rfl⟩)) w h hB hl).1 r hs
     ·cases hs
theorem j0t{base:Nat}{q:List Bool}{v:Value}(n:Int)(w:World)(h:Pile base w v q)(hB:base≤w.heap.size)(hl:q.length≤1000000)(hs:Rl.step q n=none):Calls Tryz.prog 164 #[v,.int .i64 n] w (PileNo base w):=by
 unfold Rl.step at hs;split at hs
 ·cases hs
 ·split at hs
  ·cases hs
  ·split at hs
   ·rename_i h1;exact(q27 n false false (.inl ⟨h1,rfl,rfl⟩) w h hB hl).2 hs
   ·split at hs
    ·rename_i h1;exact(q27 n true false (.inr (.inl ⟨h1,rfl,rfl⟩)) w h hB hl).2 hs
    ·split at hs
     ·rename_i h1;exact(q27 n true true (.inr (.inr ⟨h1,rfl,rfl⟩)) w h hB hl).2 hs
     ·exact z57 n (by omega) w
theorem q0y{w:World}{B:Nat}{A:Option Addr}{l:List Int}{k:Nat}(h:Row w B A (ints l))(hk:k<l.length):∃ ad,A=some ad∧ad.block<B∧w.cell? (ad.add k)=some (.int .i64 l[k]):=by
 obtain⟨ad,e,hb,hc⟩:=h.at_ (k:=k) (by rw[z2k];exact hk);exact⟨ad,e,hb,by simpa [ints] using hc⟩
structure RightAt (w:World) (rule:List Int) (v:Value) (k:Nat) (q:List Bool) (W:World):Prop where
 own:Pile w.heap.size W v q
 below:Below w.heap.size w W
 go:Rl.pileOf [] rule=Rl.pileOf q (rule.drop k)
 len:q.length≤k
theorem z95{q r:List Bool}{n:Int}(h:Rl.step q n=some r):r.length≤q.length+1:=by
 have h2:∀ a b,Rl.two q a b=some r→r.length≤q.length+1:=fun a b h=>by
  unfold Rl.two at h;split at h
  ·injection h with h;subst h;simp
  ·cases h
 unfold Rl.step at h
 repeat' split at h
 all_goals first
  | exact h2 _ _ h
  | (injection h with h;subst h;simp)
  | cases h
theorem q8y{rule:List Int}{q r:List Bool}{k:Nat}(hk:k<rule.length)(hs:Rl.step q rule[k]=some r):Rl.pileOf q (rule.drop k)=Rl.pileOf r (rule.drop (k+1)):=by
 rw[List.drop_eq_getElem_cons hk,Rl.pileOf,hs];rfl
theorem q6a{rule:List Int}{q:List Bool}{k:Nat}(hk:k<rule.length)(hs:Rl.step q rule[k]=none):Rl.pileOf q (rule.drop k)=none:=by
 rw[List.drop_eq_getElem_cons hk,Rl.pileOf,hs];rfl
theorem q5b{rule:List Int}{lab:Bool}(h:40<rule.length):Rl.right rule lab=false:=decide_eq_false fun h1=>by omega
theorem q5c{rule:List Int}{lab:Bool}(h:Rl.pileOf [] rule=none):Rl.right rule lab=false:=decide_eq_false fun h1=>by rw[h] at h1;cases h1.2
theorem q5d{rule:List Int}{lab:Bool}{q:List Bool}(hl:rule.length≤40)(h:Rl.pileOf [] rule=some q):Rl.right rule lab=decide (q=[lab]):=by
 unfold Rl.right;rw[h];by_cases e:q=[lab]
 ·subst e;rw[decide_eq_true ⟨hl,rfl⟩,decide_eq_true rfl]
 ·rw[decide_eq_false e,decide_eq_false fun h1=>e (by injection h1.2)]
def Tells(w:World)(b:Bool)(e:Ending)(w':World):Prop:=e=.returned (.bool b)∧Below w.heap.size w w'
theorem q2u{A:Option Addr}{rule:List Int}(c:Nat)(lab:Bool)(w:World)(h:Row w w.heap.size A (ints rule))(hl:rule.length≤1000000):Calls Tryz.prog 144 #[.slice A rule.length c,.bool lab] w (Tells w (Rl.right rule lab)):=by
 by_cases h40:40<rule.length
 ·rw[q5b h40];have h41:(40:Int)<(rule.length:Int):=by omega
  clear h h40;go_enter Tryz.func144,Tryz.ntmps144;go_wp2;go_ret;exact⟨rfl,Below.refl _ _⟩
 ·have h41:¬(40:Int)<(rule.length:Int):=by omega
  have hle:rule.length≤40:=by omega
  have hp41:((40:Int)<(rule.length:Int))=False:=eq_false h41;have H:=η h;clear h h40 h41;go_enter Tryz.func144,Tryz.ntmps144;go_wp2;go_loopw [5,14] (fun v i wr=>∃(k:Nat) (q:List Bool),k≤rule.length∧i=.int .i64 k∧Hid (RightAt w rule v k q wr)) (fun _ i _=>rule.length-(intOf i).toNat);case atStart=>exact⟨0,[],Nat.zero_le _,rfl,⟨World.ownsRow_nil _ _ _ _,Below.refl _ _,rfl,Nat.le_refl _⟩⟩
  case round =>
   obtain⟨k,q,hk,rfl,HK⟩:=hrel;by_cases hlt:k<rule.length
   ·obtain⟨ad,hA,hb,c0⟩:=q0y (H.out.below HK.out.below) hlt;have HA:=η hA;rw[hA];have hql:q.length≤1000000:=by have:=HK.out.len;omega
    have hsz:=HK.out.below.size;cases hs:Rl.step q rule[k] with
    | none =>
     have hd:=j0t rule[k] _ HK.out.own hsz hql hs;have HD:=η hd;have HE:=η (HK.out.go.trans (q6a hlt hs));clear hd hs hA;generalize rule[k]=x at *;go_wp2_with (fail);refine HD.out.mono ?_;rintro e w1 ⟨rfl,hb1⟩;have HB1:=η hb1;clear hb1;go_wp2;go_ret;exact⟨retb (q5c HE.out).symm,HK.out.below.trans HB1.out⟩
    | some r =>
     have hd:=j0u rule[k] _ HK.out.own hsz hql hs;have HD:=η hd;have HE:=η (HK.out.go.trans (q8y hlt hs));have hrl:=z95 hs;clear hd hs hA;generalize rule[k]=x at *;go_wp2_with (fail);refine HD.out.mono ?_;rintro e w1 ⟨v1,rfl,ho1,hb1⟩;have hnx:RightAt w rule v1 (k+1) r w1:=⟨ho1,HK.out.below.trans hb1,HE.out,by have:=HK.out.len;omega⟩;have HNX:=η hnx;clear hb1 ho1 hnx;go_wp2;go_roundw;case rel=>exact⟨k+1,r,by omega,by go_num,HNX⟩
     case measure=>simp[intOf];omega
   ·obtain rfl:k=rule.length:=by omega
    have hgo:=HK.out.go;rw[List.drop_length] at hgo;have hr:Rl.right rule lab=decide (q=[lab]):=q5d hle hgo;have HR:=η hr;have HB:=η HK.out.below;have hown:wr.ownsRow w.heap.size 4 1 _ q.length (bools q):=HK.out.own;clear hgo hr
    match q,HK,HR,hown with
    | [],HK,HR,hown =>
     obtain⟨A1,cap,rfl⟩:=q0b hown;clear hown HK;go_wp2;go_ret;refine⟨retb ?_,HB.out⟩;rw[HR.out];simp
    | [x],HK,HR,hown =>
     obtain⟨g,cap,rfl,-⟩:=q1y hown (by simp);have c0:=q1g hown (j:=0) (u:=.bool x) rfl;clear hown HK;go_wp2;go_ret;refine⟨retb ?_,HB.out⟩;rw[HR.out];cases x<;>cases lab<;>rfl
    | x :: y :: r,HK,HR,hown =>
     obtain⟨A1,cap,rfl⟩:=q0b hown;have hne:(((x :: y :: r).length:Int)==1)=false:=by rw[beq_eq_false_iff_ne];simp;omega
     generalize (x :: y :: r).length=n at *;clear hown HK;go_wp2;go_ret;refine⟨retb ?_,HB.out⟩;rw[HR.out];simp
namespace Rl
def usesOf(r:List Int):Nat:=(if(8:Int) ∈ r then 1 else 0)+(if(9:Int) ∈ r then 2 else 0)+(if(10:Int) ∈ r then 4 else 0)+(if(11:Int) ∈ r then 8 else 0)
theorem usesOf_lt(r:List Int):usesOf r<16:=by
 unfold usesOf;split<;>split<;>split<;>split<;>omega
theorem uses_other{r:List Int}{n:Int}(h:n<8∨11<n):usesOf (r++[n])=usesOf r:=by
 unfold usesOf;simp only[List.mem_append,List.mem_singleton];have e8:¬(8:Int)=n:=by omega
 have e9:¬(9:Int)=n:=by omega
 have e10:¬(10:Int)=n:=by omega
 have e11:¬(11:Int)=n:=by omega
 simp only[e8,e9,e10,e11,or_false]
theorem uses_8(r:List Int):usesOf (r++[8])=usesOf r ||| 1:=by
 unfold usesOf;by_cases h8:(8:Int) ∈ r<;>by_cases h9:(9:Int) ∈ r<;>by_cases h10:(10:Int) ∈ r<;>by_cases h11:(11:Int) ∈ r<;>simp[h8,h9,h10,h11]
theorem uses_9(r:List Int):usesOf (r++[9])=usesOf r ||| 2:=by
 unfold usesOf;by_cases h8:(8:Int) ∈ r<;>by_cases h9:(9:Int) ∈ r<;>by_cases h10:(10:Int) ∈ r<;>by_cases h11:(11:Int) ∈ r<;>simp[h8,h9,h10,h11]
theorem uses_10(r:List Int):usesOf (r++[10])=usesOf r ||| 4:=by
 unfold usesOf;by_cases h8:(8:Int) ∈ r<;>by_cases h9:(9:Int) ∈ r<;>by_cases h10:(10:Int) ∈ r<;>by_cases h11:(11:Int) ∈ r<;>simp[h8,h9,h10,h11]
theorem uses_11(r:List Int):usesOf (r++[11])=usesOf r ||| 8:=by
 unfold usesOf;by_cases h8:(8:Int) ∈ r<;>by_cases h9:(9:Int) ∈ r<;>by_cases h10:(10:Int) ∈ r<;>by_cases h11:(11:Int) ∈ r<;>simp[h8,h9,h10,h11]
def made(r:List Int):Bool:=right r false || right r true
end Rl
theorem q4g{α:Type}{l:List α}{k:Nat}(h:k<l.length):l.take (k+1)=l.take k++[l[k]]:=by rw[List.take_succ_eq_append_getElem h]
theorem z0w:∀ u:Nat,u<16→bits BinOp.or IntKind.u32 (u:Int) 1=((u ||| 1:Nat):Int):=by decide +kernel
theorem z0x:∀ u:Nat,u<16→bits BinOp.or IntKind.u32 (u:Int) 2=((u ||| 2:Nat):Int):=by decide +kernel
theorem z0y:∀ u:Nat,u<16→bits BinOp.or IntKind.u32 (u:Int) 4=((u ||| 4:Nat):Int):=by decide +kernel
theorem z0z:∀ u:Nat,u<16→bits BinOp.or IntKind.u32 (u:Int) 8=((u ||| 8:Nat):Int):=by decide +kernel
def UsesRes(w:World)(rule:List Int)(e:Ending)(w':World):Prop :=
 e=.returned (.tuple #[.int .u32 (if Rl.made rule=true then(Rl.usesOf rule:Nat) else 0:Int),.int .i64 (if Rl.made rule=true then 0 else 1)])∧Below w.heap.size w w'
theorem UsesRes.no{w w':World}{rule:List Int}(h:Rl.made rule=false)(hb:Below w.heap.size w w'):UsesRes w rule (.returned (.tuple #[.int .u32 0,.int .i64 1])) w':=by
 unfold UsesRes;rw[if_neg (by rw[h];decide),if_neg (by rw[h];decide)];exact⟨rfl,hb⟩
theorem UsesRes.yes{w w':World}{rule:List Int}(h:Rl.made rule=true)(hb:Below w.heap.size w w'):UsesRes w rule (.returned (.tuple #[.int .u32 (Rl.usesOf rule:Nat),.int .i64 0])) w':=by
 unfold UsesRes;rw[if_pos h,if_pos h];exact⟨rfl,hb⟩
theorem j1u{A:Option Addr}{rule:List Int}(c:Nat)(w:World)(h:Row w w.heap.size A (ints rule))(hl:rule.length≤1000000)(hm:Rl.made rule=false):Calls Tryz.prog 145 #[.slice A rule.length c] w (UsesRes w rule):=by
 have h1:=q2u c false w h hl;have h2:=fun W (hb:Below w.heap.size w W)=>q2u c true W ((h.below hb).more hb.size) hl
 obtain⟨e1,e2⟩:Rl.right rule false=false∧Rl.right rule true=false:=by simpa [Rl.made] using hm
 rw[e1] at h1;rw[e2] at h2;have H1:=η h1;have H2:=η h2;have HM:=η hm;clear h h1 h2 e1 e2 hm;go_enter Tryz.func145,Tryz.ntmps145;go_wp2_with (fail);refine H1.out.mono ?_;rintro e w1 ⟨rfl,hb1⟩;have HB1:=η hb1;clear hb1;go_wp2_with (fail);refine(H2.out _ HB1.out).mono ?_;rintro e w2 ⟨rfl,hb2⟩;have HB2:=η (HB1.out.trans (hb2.mono HB1.out.size));clear hb2;go_wp2;go_ret2;exact UsesRes.no HM.out HB2.out
theorem j0h{A:Option Addr}{rule:List Int}(c:Nat)(w:World)(h:Row w w.heap.size A (ints rule))(hl:rule.length≤1000000)(hm:Rl.made rule=true):Calls Tryz.prog 145 #[.slice A rule.length c] w (UsesRes w rule):=by
 have h1:=q2u c false w h hl;have h2:=fun W (hb:Below w.heap.size w W)=>q2u c true W ((h.below hb).more hb.size) hl
 have H1:=η h1;have H2:=η h2;have HM:=η hm;have H:=η h;clear h h1 h2;cases e1:Rl.right rule false
 ·have e2:Rl.right rule true=true:=by simpa [Rl.made,e1] using hm
  rw[e1] at H1;rw[e2] at H2;clear e1 e2 hm;go_enter Tryz.func145,Tryz.ntmps145;go_wp2_with (fail);refine H1.out.mono ?_;rintro e w1 ⟨rfl,hb1⟩;have HB1:=η hb1;clear hb1;go_wp2_with (fail);refine(H2.out _ HB1.out).mono ?_;rintro e w2 ⟨rfl,hb2⟩;have HBW:=η (HB1.out.trans (hb2.mono HB1.out.size));clear hb2;go_wp2;go_loopw [4,17] (fun v i wr=>∃(k:Nat),k≤rule.length∧i=.int .i64 k∧v=.int .u32 (Rl.usesOf (rule.take k):Nat)∧wr=w2) (fun _ i _=>rule.length-(intOf i).toNat);case atStart=>exact⟨0,Nat.zero_le _,rfl,rfl,rfl⟩
  case round =>
   obtain⟨k,hk,rfl,rfl,rfl⟩:=hrel;by_cases hlt:k<rule.length
   ·obtain⟨ad,hA,hb,c0⟩:=q0y (H.out.below HBW.out) hlt;have HN:=η (q4g hlt);have hu:=Rl.usesOf_lt (rule.take k);rw[hA];clear hA;generalize rule[k]=x at *;by_cases hx:x<8∨11<x
    ·have HE:=η (Rl.uses_other (r:=rule.take k) hx);have HX:=η hx;rcases hx with hx|hx;all_goals
      generalize Rl.usesOf (rule.take k)=u at *;go_wp2;go_roundw;case rel=>exact⟨k+1,by omega,by go_num,by rw[HN.out,HE.out],trivial⟩
      case measure=>simp[intOf];omega
    ·have hxs:x=8∨x=9∨x=10∨x=11:=by omega
     clear hx;rcases hxs with rfl|rfl|rfl|rfl
     ·have HE:=η (Rl.uses_8 (rule.take k));generalize Rl.usesOf (rule.take k)=u at *;have HO:=η (z0w u hu);go_wp2;go_roundw;case rel=>exact⟨k+1,by omega,by go_num,by rw[HN.out,HE.out,←HO.out],trivial⟩
      case measure=>simp[intOf];omega
     ·have HE:=η (Rl.uses_9 (rule.take k));generalize Rl.usesOf (rule.take k)=u at *;have HO:=η (z0x u hu);go_wp2;go_roundw;case rel=>exact⟨k+1,by omega,by go_num,by rw[HN.out,HE.out,←HO.out],trivial⟩
      case measure=>simp[intOf];omega
     ·have HE:=η (Rl.uses_10 (rule.take k));generalize Rl.usesOf (rule.take k)=u at *;have HO:=η (z0y u hu);go_wp2;go_roundw;case rel=>exact⟨k+1,by omega,by go_num,by rw[HN.out,HE.out,←HO.out],trivial⟩
      case measure=>simp[intOf];omega
     ·have HE:=η (Rl.uses_11 (rule.take k));generalize Rl.usesOf (rule.take k)=u at *;have HO:=η (z0z u hu);go_wp2;go_roundw;case rel=>exact⟨k+1,by omega,by go_num,by rw[HN.out,HE.out,←HO.out],trivial⟩
      case measure=>simp[intOf];omega
   ·obtain rfl:k=rule.length:=by omega
    rw[List.take_length];go_wp2;go_ret2;exact UsesRes.yes HM.out HBW.out
 ·rw[e1] at H1;clear e1 hm H2;go_enter Tryz.func145,Tryz.ntmps145;go_wp2_with (fail);refine H1.out.mono ?_;rintro e w1 ⟨rfl,hb1⟩;have HBW:=η hb1;clear hb1;go_wp2;go_loopw [4,17] (fun v i wr=>∃(k:Nat),k≤rule.length∧i=.int .i64 k∧v=.int .u32 (Rl.usesOf (rule.take k):Nat)∧wr=w1) (fun _ i _=>rule.length-(intOf i).toNat);case atStart=>exact⟨0,Nat.zero_le _,rfl,rfl,rfl⟩
  case round =>
   obtain⟨k,hk,rfl,rfl,rfl⟩:=hrel;by_cases hlt:k<rule.length
   ·obtain⟨ad,hA,hb,c0⟩:=q0y (H.out.below HBW.out) hlt;have HN:=η (q4g hlt);have hu:=Rl.usesOf_lt (rule.take k);rw[hA];clear hA;generalize rule[k]=x at *;by_cases hx:x<8∨11<x
    ·have HE:=η (Rl.uses_other (r:=rule.take k) hx);have HX:=η hx;rcases hx with hx|hx;all_goals
      generalize Rl.usesOf (rule.take k)=u at *;go_wp2;go_roundw;case rel=>exact⟨k+1,by omega,by go_num,by rw[HN.out,HE.out],trivial⟩
      case measure=>simp[intOf];omega
    ·have hxs:x=8∨x=9∨x=10∨x=11:=by omega
     clear hx;rcases hxs with rfl|rfl|rfl|rfl
     ·have HE:=η (Rl.uses_8 (rule.take k));generalize Rl.usesOf (rule.take k)=u at *;have HO:=η (z0w u hu);go_wp2;go_roundw;case rel=>exact⟨k+1,by omega,by go_num,by rw[HN.out,HE.out,←HO.out],trivial⟩
      case measure=>simp[intOf];omega
     ·have HE:=η (Rl.uses_9 (rule.take k));generalize Rl.usesOf (rule.take k)=u at *;have HO:=η (z0x u hu);go_wp2;go_roundw;case rel=>exact⟨k+1,by omega,by go_num,by rw[HN.out,HE.out,←HO.out],trivial⟩
      case measure=>simp[intOf];omega
     ·have HE:=η (Rl.uses_10 (rule.take k));generalize Rl.usesOf (rule.take k)=u at *;have HO:=η (z0y u hu);go_wp2;go_roundw;case rel=>exact⟨k+1,by omega,by go_num,by rw[HN.out,HE.out,←HO.out],trivial⟩
      case measure=>simp[intOf];omega
     ·have HE:=η (Rl.uses_11 (rule.take k));generalize Rl.usesOf (rule.take k)=u at *;have HO:=η (z0z u hu);go_wp2;go_roundw;case rel=>exact⟨k+1,by omega,by go_num,by rw[HN.out,HE.out,←HO.out],trivial⟩
      case measure=>simp[intOf];omega
   ·obtain rfl:k=rule.length:=by omega
    rw[List.take_length];go_wp2;go_ret2;exact UsesRes.yes HM.out HBW.out
def Parses(R M:Nat)(A:Option Addr)(c:Nat)(l:List Lx.Tk)(g:FuncId)(p:Rl.St→Rl.Res)(s:Rl.St):Prop :=
 ∀(W:World) (rv:Value),Rd R M A c l s rv W→Calls Tryz.prog g #[.pointer (some ⟨R,0,none⟩)] W (Told R M A c l rv W (p s))
theorem q73{R M c:Nat}{A:Option Addr}{l:List Lx.Tk}{s:Rl.St}{rv:Value}{g:FuncId}{p:Rl.St→Rl.Res}(hen:∀ args W,(callFunc g args).run Tryz.prog W=.ok (.enter g args) W)(fin:ByteArray)(w:World)(h:Rd R M A c l s rv w)(hl:l.length≤1000000)(hpos:s.pos+1<l.length)(hd:s.deep≤12)(hgood:s.deep<12→(p (Rl.into s)).1.pos<l.length∧((p (Rl.into s)).2=0→(p (Rl.into s)).1.deep=s.deep+1))(hpart:s.deep<12→Parses R M A c l g p (Rl.into s)) :
  Calls Tryz.prog 188 #[.pointer (some ⟨R,0,none⟩),.func (.func g) #[.pointer (some ⟨R,0,none⟩)] #[],.string fin] w (Told R M A c l rv w (Rl.inside l p fin s)):=by
 obtain⟨⟨c0,c1,c2,c3,c4⟩,f1,f2,f3⟩:=h.facts;by_cases h12:s.deep=12
 ·have e:Rl.inside l p fin s=(s,5):=by rw[Rl.inside,if_pos h12]
  rw[e];have H:=η h;have hb:((s.deep:Int)==12)=true:=by rw[beq_iff_eq];omega
  clear e h12 hgood hpart h c0 c1 c3 c4;go_enter Tryz.func188,Tryz.ntmps188;go_wp2;go_ret;exact⟨_,rfl,H.out,Still.refl _ _ _⟩
 ·have hlt:s.deep<12:=by omega
  have hP:=hpart hlt _ rv ((h.set_ (i:=2) (u:=.int .i64 ((s.deep:Int)+1)) (s':={ s with deep:=s.deep+1 }) rfl rfl).set_ (i:=1) (u:=.int .i64 ((s.pos:Int)+1)) (s':=Rl.into s) rfl rfl);have hst:Still R rv rv w ((w.setCell ⟨R,2,none⟩ (.int .i64 ((s.deep:Int)+1))).setCell ⟨R,1,none⟩ (.int .i64 ((s.pos:Int)+1))):=((Still.refl R rv w).setR (p:=⟨R,2,none⟩) rfl _).setR (p:=⟨R,1,none⟩) rfl _;obtain⟨hg1,hg2⟩:=hgood hlt;have hdef:Rl.inside l p fin s=if(p (Rl.into s)).2=0 then(if Rl.isN l (p (Rl.into s)).1.pos fin=true then(Rl.outof (p (Rl.into s)).1,0) else((p (Rl.into s)).1,4)) else p (Rl.into s):=by rw[Rl.inside,if_neg h12]
  rw[hdef];generalize p (Rl.into s)=r at *;obtain⟨s1,n⟩:=r;dsimp only at hP hg1 hg2 ⊢;have HP:=η hP;have HST:=η hst;have hb:((s.deep:Int)==12)=false:=by rw[beq_eq_false_iff_ne];omega
  clear hdef hgood hpart h12 h hP hst c0 c3 c4;by_cases hn:n=0
  ·have hd1:=hg2 hn;have HD:=η hd1;subst hn;rw[if_pos rfl];clear hg2 hd1;cases hf:Rl.isN l s1.pos fin
   ·rw[if_neg (by decide)];have HF:=η hf;clear hf;go_enter Tryz.func188,Tryz.ntmps188;go_wp2_with (fail);refine HP.out.mono ?_;rintro e w1 ⟨rv1,rfl,h1,hs1⟩;have htk:=q3d fin w1 h1 hg1 hl HF.out;have HT:=η htk;have HS1:=η hs1;clear htk hs1 h1;go_wp2_with (fail);refine HT.out.mono ?_;rintro e w2 ⟨rfl,h2,hs2⟩;have H2:=η h2;have HS2:=η hs2;clear h2 hs2;go_wp2;go_ret;exact⟨_,rfl,H2.out,HST.out.trans (HS1.out.trans HS2.out)⟩
   ·rw[if_pos rfl];have HF:=η hf;clear hf;go_enter Tryz.func188,Tryz.ntmps188;go_wp2_with (fail);refine HP.out.mono ?_;rintro e w1 ⟨rv1,rfl,h1,hs1⟩;have htk:=q2f fin w1 h1 hg1 hl HF.out;have HT:=η htk;have HS1:=η hs1;clear htk hs1 h1 f1 f2 f3 c1 c2;go_wp2_with (fail);refine HT.out.mono ?_;rintro e w2 ⟨rfl,h2,hs2⟩;obtain⟨⟨-,-,c2,-,-⟩,-,f2,-⟩:=h2.facts;have hdc:(((Rl.adv s1).deep:Nat):Int)=(s.deep:Int)+1:=by show((s1.deep:Nat):Int)=_;rw[HD.out];rfl
    rw[hdc] at c2;have H2:=η h2;have HS2:=η hs2;clear h2 hs2 hdc;go_wp2;go_ret;refine⟨rv1,rfl,H2.out.set_ (i:=2) (s':=Rl.outof s1) ?_ rfl,(HST.out.trans (HS1.out.trans HS2.out)).setR (p:=⟨R,2,none⟩) rfl _⟩;have hdd:(((Rl.outof s1).deep:Nat):Int)=(s.deep:Int):=by show((s1.deep-1:Nat):Int)=_;rw[HD.out];simp
    rw[hdd];rfl
  ·rw[if_neg hn];have hn1:((n:Int) != 0)=true:=by rw[bne_iff_ne];omega
   clear hn hg2;go_enter Tryz.func188,Tryz.ntmps188;go_wp2_with (fail);refine HP.out.mono ?_;rintro e w1 ⟨rv1,rfl,h1,hs1⟩;have H1:=η h1;have HS1:=η hs1;clear h1 hs1;go_wp2;go_ret;exact⟨rv1,rfl,H1.out,HST.out.trans HS1.out⟩
end Go.Proofs.YtjobifclmcdjcaaGreatDoor
namespace Go.Proofs.YtjobifclmcdjcaaGreatDoor
open Go.RowKit Go.Shelf
attribute [local go_sem] Oper.semAt_some
theorem j1v{l:List Lx.Tk}{k:Nat}{t:Lx.Tk}(h:l[k]? = some t):Rl.word l k=if t.kind=1∧6≤Rl.opOf t.text∧Rl.opOf t.text≤11 then Rl.opOf t.text else 0:=by
 unfold Rl.word;rw[h]
theorem q92{R M c:Nat}{A:Option Addr}{l:List Lx.Tk}{s:Rl.St}{rv:Value}{lab:Rl.St→Rl.Res}(w:World)(h:Rd R M A c l s rv w)(he:Rl.Ends l)(hl:l.length≤1000000)(hpos:s.pos<l.length)(hd:s.deep≤12)(ho:s.out.length≤40)(hgood:s.deep<12→Rl.isN l s.pos Rl.wOpenL=true→(lab (Rl.into s)).1.pos<l.length∧((lab (Rl.into s)).2=0→(lab (Rl.into s)).1.deep=s.deep+1))(hpart:s.deep<12→Rl.isN l s.pos Rl.wOpenL=true→Parses R M A c l 163 lab (Rl.into s)) :
  Calls Tryz.prog 178 #[.pointer (some ⟨R,0,none⟩)] w (Told R M A c l rv w (Rl.atom l lab s)):=by
 have hmf:∀(fn:Fn) (first cap:Array Value) (w:World),(Instr.makeFunc fn first cap).run Tryz.prog w=.ok (.func fn first cap) w:=fun _ _ _ _=>rfl
 have hnx:=q3s Rl.wOpenL w h hpos hl;cases hn:Rl.isN l s.pos Rl.wOpenL
 ·have ea:Rl.atom l lab s=if Rl.word l s.pos=0 then(s,4) else Rl.put (Rl.word l s.pos) (Rl.adv s):=by rw[Rl.atom,if_neg (by rw[hn];decide)]
  rw[ea];rw[hn] at hnx;have HNX:=η hnx;have H:=η h;clear hnx ea hgood hpart hn h;have ht0:l[s.pos]? = some l[s.pos]:=List.getElem?_eq_getElem hpos;have hwd:=j1v ht0;obtain⟨t,htt⟩:∃ t,l[s.pos]=t:=⟨_,rfl⟩;rw[htt] at ht0 hwd;obtain⟨kd,y,ps⟩:=t;dsimp only at hwd;have hob:=Rl.opOf_bounds y;obtain⟨op,hop⟩:∃ op,Rl.opOf y=op:=⟨_,rfl⟩;rw[hop] at hwd hob;have HT:=η ht0;have HW:=η hwd;have HOP:=η hop;clear ht0 hwd hop htt;by_cases hin:kd=1∧6≤op∧op≤11
  ·have hwo:Rl.word l s.pos=op:=by rw[HW.out,if_pos hin]
   rw[hwo,if_neg (show ¬op=0 by omega)];have hlast:=Rl.word_lt he (show Rl.word l s.pos≠0 by rw[hwo];omega);obtain⟨rfl,hin1,hin2⟩:=hin;clear hwo;go_enter Tryz.func178,Tryz.ntmps178;go_wp2_with (fail);refine HNX.out.mono ?_;rintro e w1 ⟨rfl,hb1⟩;have h1:=H.out.kept hb1;obtain⟨ad,t,hA,hb,ht,t0,t1,t2⟩:=q3e h1.toks.row hpos;rw[HT.out] at ht;injection ht with ht;subst ht;dsimp only at t0 t1 t2;have hblk:(ad.add (s.pos*3)).block<w1.heap.size:=by rw[q0a];exact hb
   obtain⟨⟨c0,c1,c2,c3,c4⟩,f1,f2,f3⟩:=h1.facts;rw[hA] at c0;have HA:=η hA;have hR:=h1.lt;have hlk:=q31 y (w1.alloc (.cells #[.int .i64 1,.string y,.int .i64 ps] 150)).drew.drew M ((Below.heap_alloc _ _ _ h1.safe.1).trans h1.map);rw[HOP.out] at hlk;have HB1:=η hb1;have H1:=η h1;have hst:=((((Still.below hb1 rv).setR (p:=⟨R,1,none⟩) rfl (.int .i64 ((s.pos:Int)+1))).alloc (.cells #[.int .i64 1,.string y,.int .i64 ps] 150)).drew).drew;have hput:=q3v y _ (((h1.set_ (i:=1) (u:=.int .i64 ((s.pos:Int)+1)) (s':=Rl.adv s) rfl rfl).kept ((((Below.refl _ _).alloc (Nat.le_refl _) (.cells #[.int .i64 1,.string y,.int .i64 ps] 150)).drew).drew))) ho;rw[HOP.out] at hput;have HPUT:=η hput;have HST:=η hst;clear hb1 h1 hb hA hput hst c2 c3 f2 f3;go_wp2;go_region;go_wp2;go_region;go_wp2_with (fail);refine HPUT.out.mono ?_;rintro e w6 ⟨rv6,rfl,h6,hs6⟩;have H6:=η h6;have HS6:=η hs6;clear h6 hs6;go_wp2;go_ret;exact⟨rv6,rfl,H6.out,HST.out.trans HS6.out⟩
  ·have hwo:Rl.word l s.pos=0:=by rw[HW.out,if_neg hin]
   rw[if_pos hwo];clear hwo;by_cases hk1:kd=1
   ·subst hk1;go_enter Tryz.func178,Tryz.ntmps178;go_wp2_with (fail);refine HNX.out.mono ?_;rintro e w1 ⟨rfl,hb1⟩;have h1:=H.out.kept hb1;obtain⟨ad,t,hA,hb,ht,t0,t1,t2⟩:=q3e h1.toks.row hpos;rw[HT.out] at ht;injection ht with ht;subst ht;dsimp only at t0 t1 t2;have hblk:(ad.add (s.pos*3)).block<w1.heap.size:=by rw[q0a];exact hb
    obtain⟨⟨c0,c1,c2,c3,c4⟩,f1,f2,f3⟩:=h1.facts;rw[hA] at c0;have HA:=η hA;have hR:=h1.lt;have hlk:=q31 y (w1.alloc (.cells #[.int .i64 1,.string y,.int .i64 ps] 150)).drew.drew M ((Below.heap_alloc _ _ _ h1.safe.1).trans h1.map);rw[HOP.out] at hlk;have HB1:=η hb1;have H1:=η h1;have hst:=(((Below.refl _ w1).alloc (Nat.le_refl _) (.cells #[.int .i64 1,.string y,.int .i64 ps] 150)).drew).drew;have HST:=η hst;have HIN:=η hin;clear hb1 h1 hb hA hst c2 c3 f2 f3 hin;go_wp2;go_region;go_wp2;go_region;go_wp2_with (fail);all_goals
     first
      | (go_ret;exact⟨rv,rfl,H1.out.kept HST.out,.below (HB1.out.trans (HST.out.mono HB1.out.size)) rv⟩)
      | (exfalso;exact HIN.out ⟨trivial,by omega,by omega⟩)
   ·skip
    go_enter Tryz.func178,Tryz.ntmps178;go_wp2_with (fail);refine HNX.out.mono ?_;rintro e w1 ⟨rfl,hb1⟩;have h1:=H.out.kept hb1;obtain⟨ad,t,hA,hb,ht,t0,t1,t2⟩:=q3e h1.toks.row hpos;rw[HT.out] at ht;injection ht with ht;subst ht;dsimp only at t0 t1 t2;have hblk:(ad.add (s.pos*3)).block<w1.heap.size:=by rw[q0a];exact hb
    obtain⟨⟨c0,c1,c2,c3,c4⟩,f1,f2,f3⟩:=h1.facts;rw[hA] at c0;have HA:=η hA;have hR:=h1.lt;have hlk:=q31 y (w1.alloc (.cells #[.int .i64 kd,.string y,.int .i64 ps] 150)).drew.drew M ((Below.heap_alloc _ _ _ h1.safe.1).trans h1.map);rw[HOP.out] at hlk;have HB1:=η hb1;have H1:=η h1;have hst:=(((Below.refl _ w1).alloc (Nat.le_refl _) (.cells #[.int .i64 kd,.string y,.int .i64 ps] 150)).drew).drew;have HST:=η hst;have HIN:=η hin;clear hb1 h1 hb hA hst c2 c3 f2 f3 hin;go_wp2;go_region;go_wp2;go_region;go_wp2_with (fail);all_goals
     first
      | (go_ret;exact⟨rv,rfl,H1.out.kept HST.out,.below (HB1.out.trans (HST.out.mono HB1.out.size)) rv⟩)
      | (exfalso;exact HIN.out ⟨trivial,by omega,by omega⟩)
 ·have hlast:=Rl.isN_lt he hn;have ea:Rl.atom l lab s=Rl.inside l lab Rl.wShutL s:=by rw[Rl.atom,if_pos hn]
  have hin:=fun W (hW:Rd R M A c l s rv W)=>q73 (g:=163) (p:=lab) Tryz.call163 Rl.wShutL W hW hl hlast hd (fun h1=>hgood h1 hn) (fun h1=>hpart h1 hn)
  rw[ea];rw[hn] at hnx;have HNX:=η hnx;have HIN:=η hin;have H:=η h;clear hnx ea hgood hpart hn h hin;go_enter Tryz.func178,Tryz.ntmps178;go_wp2_with (fail);refine HNX.out.mono ?_;rintro e w1 ⟨rfl,hb1⟩;have HB1:=η hb1;clear hb1;go_wp2_with (fail);refine(HIN.out w1 (H.out.kept HB1.out)).mono ?_;rintro e w2 ⟨rv2,rfl,h2,hs2⟩;have H2:=η h2;have HS2:=η hs2;clear h2 hs2;go_wp2;go_ret;exact⟨rv2,rfl,H2.out,(Still.below HB1.out rv).trans HS2.out⟩
def ParsesAll(R M:Nat)(A:Option Addr)(c:Nat)(l:List Lx.Tk)(g:FuncId)(p:Rl.St→Rl.Res)(o:Nat):Prop :=
 ∀ s:Rl.St,s.pos<l.length→s.deep=o→s.out.length≤40→Parses R M A c l g p s
theorem z8k{R M c:Nat}{A:Option Addr}{l:List Lx.Tk}{o:Nat}{lab:Rl.St→Rl.Res}(he:Rl.Ends l)(hl:l.length≤1000000)(hg:Rl.Good l o true lab)(hlab:ParsesAll R M A c l 163 lab o) :
  ParsesAll R M A c l 189 (Rl.flow l lab) o:=by
 intro s hpos hd ho w rv h;have hL:=hlab s hpos hd ho w rv h;obtain⟨a1,a2,a3⟩:=hg s hpos hd ho;have hdef:Rl.flow l lab s=if(lab s).2=0 then(if Rl.isN l (lab s).1.pos Rl.wFlows=true then(if(lab (Rl.adv (lab s).1)).2=0 then Rl.put 5 (lab (Rl.adv (lab s).1)).1 else lab (Rl.adv (lab s).1)) else((lab s).1,4)) else lab s:=rfl;rw[hdef];generalize lab s=r at *;obtain⟨s1,n⟩:=r;dsimp only at hL a1 a2 a3 ⊢;have HL:=η hL;clear hdef hL h;by_cases hn:n=0
 ·obtain⟨b1,-,-⟩:=a3 hn;subst hn;rw[if_pos rfl];clear a3;cases hf:Rl.isN l s1.pos Rl.wFlows
  ·rw[if_neg (by decide)];have HF:=η hf;clear hf hlab;go_enter Tryz.func189,Tryz.ntmps189;go_wp2_with (fail);refine HL.out.mono ?_;rintro e w1 ⟨rv1,rfl,h1,hs1⟩;have htk:=q3d Rl.wFlows w1 h1 a1 hl HF.out;have HT:=η htk;have HS1:=η hs1;clear htk hs1 h1;go_wp2_with (fail);refine HT.out.mono ?_;rintro e w2 ⟨rfl,h2,hs2⟩;have H2:=η h2;have HS2:=η hs2;clear h2 hs2;go_wp2;go_ret;exact⟨_,rfl,H2.out,HS1.out.trans HS2.out⟩
  ·rw[if_pos rfl];have hlt:=Rl.isN_lt he hf;have hL2:∀(W:World) (rv:Value),Rd R M A c l (Rl.adv s1) rv W→Calls Tryz.prog 163 #[.pointer (some ⟨R,0,none⟩)] W (Told R M A c l rv W (lab (Rl.adv s1))):=hlab (Rl.adv s1) hlt b1 a2;obtain⟨d1,d2,d3⟩:=hg (Rl.adv s1) hlt b1 a2;generalize lab (Rl.adv s1)=r2 at *;obtain⟨s2,n2⟩:=r2;have HF:=η hf;dsimp only at d2 hL2 ⊢;have HL2:=η hL2;clear hf hlab hL2;by_cases hn2:n2=0
   ·subst hn2;rw[if_pos rfl];go_enter Tryz.func189,Tryz.ntmps189;go_wp2_with (fail);refine HL.out.mono ?_;rintro e w1 ⟨rv1,rfl,h1,hs1⟩;have htk:=q2f Rl.wFlows w1 h1 a1 hl HF.out;have HT:=η htk;have HS1:=η hs1;clear htk hs1 h1;go_wp2_with (fail);refine HT.out.mono ?_;rintro e w2 ⟨rfl,h2,hs2⟩;have H2:=η h2;have HS2:=η hs2;clear h2 hs2;go_wp2_with (fail);refine(HL2.out _ _ H2.out).mono ?_;rintro e w3 ⟨rv3,rfl,h3,hs3⟩;have hput:=q3v Rl.wFlows w3 h3 d2;rw[Rl.op_flows] at hput;have HP:=η hput;have HS3:=η hs3;clear h3 hs3 hput;go_wp2_with (fail);refine HP.out.mono ?_;rintro e w4 ⟨rv4,rfl,h4,hs4⟩;have H4:=η h4;have HS4:=η hs4;clear h4 hs4;go_wp2;go_ret;exact⟨_,rfl,H4.out,HS1.out.trans (HS2.out.trans (HS3.out.trans HS4.out))⟩
   ·rw[if_neg hn2];have hn3:((n2:Int) != 0)=true:=by rw[bne_iff_ne];omega
    clear hn2;go_enter Tryz.func189,Tryz.ntmps189;go_wp2_with (fail);refine HL.out.mono ?_;rintro e w1 ⟨rv1,rfl,h1,hs1⟩;have htk:=q2f Rl.wFlows w1 h1 a1 hl HF.out;have HT:=η htk;have HS1:=η hs1;clear htk hs1 h1;go_wp2_with (fail);refine HT.out.mono ?_;rintro e w2 ⟨rfl,h2,hs2⟩;have H2:=η h2;have HS2:=η hs2;clear h2 hs2;go_wp2_with (fail);refine(HL2.out _ _ H2.out).mono ?_;rintro e w3 ⟨rv3,rfl,h3,hs3⟩;have H3:=η h3;have HS3:=η hs3;clear h3 hs3;go_wp2;go_ret;exact⟨_,rfl,H3.out,HS1.out.trans (HS2.out.trans HS3.out)⟩
 ·rw[if_neg hn];have hn1:((n:Int) != 0)=true:=by rw[bne_iff_ne];omega
  clear hn hlab a3;go_enter Tryz.func189,Tryz.ntmps189;go_wp2_with (fail);refine HL.out.mono ?_;rintro e w1 ⟨rv1,rfl,h1,hs1⟩;have H1:=η h1;have HS1:=η hs1;clear h1 hs1;go_wp2;go_ret;exact⟨_,rfl,H1.out,HS1.out⟩
theorem z02{R M c:Nat}{A:Option Addr}{l:List Lx.Tk}{o:Nat}{cnd lab:Rl.St→Rl.Res}(he:Rl.Ends l)(hl:l.length≤1000000)(hd12:o≤12)(hg:Rl.Good l o true lab)(hlab:ParsesAll R M A c l 163 lab o)(hgc:o<12→Rl.Good l (o+1) false cnd)(hcnd:o<12→ParsesAll R M A c l 162 cnd (o+1)):ParsesAll R M A c l 177 (Rl.prim l cnd lab) o:=by
 intro s hpos hd ho w rv h;have hmf:∀(fn:Fn) (first cap:Array Value) (w:World),(Instr.makeFunc fn first cap).run Tryz.prog w=.ok (.func fn first cap) w:=fun _ _ _ _=>rfl
 cases t1:Rl.isN l s.pos Rl.wTrue
 ·have k1:=q3d Rl.wTrue w h hpos hl t1;have K1:=η k1;cases t2:Rl.isN l s.pos Rl.wFalse
  ·have K2:=η (fun W (hW:Rd R M A c l s rv W)=>q3d Rl.wFalse W hW hpos hl t2);have hnx:=fun W (hW:Rd R M A c l s rv W)=>q3s Rl.wOpen W hW hpos hl
   cases t3:Rl.isN l s.pos Rl.wOpen
   ·have ed:Rl.prim l cnd lab s=Rl.flow l lab s:=by rw[Rl.prim,t1,t2,t3];rfl
    rw[ed];rw[t3] at hnx;have K3:=η hnx;have K4:=η (z8k he hl hg hlab s hpos hd ho);clear ed hnx t1 t2 t3 k1 h hlab hcnd hgc hg;go_enter Tryz.func177,Tryz.ntmps177;go_wp2_with (fail);refine K1.out.mono ?_;rintro e w1 ⟨rfl,h1,hs1⟩;have H1:=η h1;have HS1:=η hs1;clear h1 hs1;go_wp2_with (fail);refine(K2.out _ H1.out).mono ?_;rintro e w2 ⟨rfl,h2,hs2⟩;have H2:=η h2;have HS2:=η hs2;clear h2 hs2;go_wp2_with (fail);refine(K3.out _ H2.out).mono ?_;rintro e w3 ⟨rfl,hb3⟩;have HB3:=η hb3;clear hb3;go_wp2_with (fail);refine(K4.out _ _ (H2.out.kept HB3.out)).mono ?_;rintro e w4 ⟨rv4,rfl,h4,hs4⟩;have H4:=η h4;have HS4:=η hs4;clear h4 hs4;go_wp2;go_ret;exact⟨_,rfl,H4.out,HS1.out.trans (HS2.out.trans ((Still.below HB3.out rv).trans HS4.out))⟩
   ·have ed:Rl.prim l cnd lab s=Rl.inside l cnd Rl.wShut s:=by rw[Rl.prim,t1,t2,t3];rfl
    rw[ed];rw[t3] at hnx;have hlt:=Rl.isN_lt he t3;have K3:=η hnx
    have K4:=η (fun W (hW:Rd R M A c l s rv W)=>q73 (g:=162) (p:=cnd) Tryz.call162 Rl.wShut W hW hl hlt (by omega)
     (fun h1=>by
      obtain⟨g1,g2,g3⟩:=hgc (by omega) (Rl.into s) hlt (by show s.deep+1=_;omega) ho
      exact⟨g1,fun hh=>by rw[(g3 hh).1,hd]⟩)
     (fun h1=>hcnd (by omega) (Rl.into s) hlt (by show s.deep+1=_;omega) ho))
    clear ed hnx t1 t2 t3 k1 h hlab hcnd hgc hg;go_enter Tryz.func177,Tryz.ntmps177;go_wp2_with (fail);refine K1.out.mono ?_;rintro e w1 ⟨rfl,h1,hs1⟩;have H1:=η h1;have HS1:=η hs1;clear h1 hs1;go_wp2_with (fail);refine(K2.out _ H1.out).mono ?_;rintro e w2 ⟨rfl,h2,hs2⟩;have H2:=η h2;have HS2:=η hs2;clear h2 hs2;go_wp2_with (fail);refine(K3.out _ H2.out).mono ?_;rintro e w3 ⟨rfl,hb3⟩;have HB3:=η hb3;clear hb3;go_wp2_with (fail);refine(K4.out _ (H2.out.kept HB3.out)).mono ?_;rintro e w4 ⟨rv4,rfl,h4,hs4⟩;have H4:=η h4;have HS4:=η hs4;clear h4 hs4;go_wp2;go_ret;exact⟨_,rfl,H4.out,HS1.out.trans (HS2.out.trans ((Still.below HB3.out rv).trans HS4.out))⟩
  ·have ed:Rl.prim l cnd lab s=Rl.put 2 (Rl.adv s):=by rw[Rl.prim,t1,t2];rfl
   rw[ed];have K2:=η (fun W (hW:Rd R M A c l s rv W)=>q2f Rl.wFalse W hW hpos hl t2);have hput:=fun W (hW:Rd R M A c l (Rl.adv s) rv W)=>q3v Rl.wFalse W hW ho
   rw[Rl.op_false] at hput;have K3:=η hput;clear ed t1 t2 k1 h hlab hcnd hgc hg hput;go_enter Tryz.func177,Tryz.ntmps177;go_wp2_with (fail);refine K1.out.mono ?_;rintro e w1 ⟨rfl,h1,hs1⟩;have H1:=η h1;have HS1:=η hs1;clear h1 hs1;go_wp2_with (fail);refine(K2.out _ H1.out).mono ?_;rintro e w2 ⟨rfl,h2,hs2⟩;have H2:=η h2;have HS2:=η hs2;clear h2 hs2;go_wp2_with (fail);refine(K3.out _ H2.out).mono ?_;rintro e w4 ⟨rv4,rfl,h4,hs4⟩;have H4:=η h4;have HS4:=η hs4;clear h4 hs4;go_wp2;go_ret;exact⟨_,rfl,H4.out,HS1.out.trans (HS2.out.trans HS4.out)⟩
 ·have ed:Rl.prim l cnd lab s=Rl.put 1 (Rl.adv s):=by rw[Rl.prim,t1];rfl
  rw[ed];have K1:=η (q2f Rl.wTrue w h hpos hl t1);have hput:=fun W (hW:Rd R M A c l (Rl.adv s) rv W)=>q3v Rl.wTrue W hW ho
  rw[Rl.op_true] at hput;have K3:=η hput;clear ed t1 h hlab hcnd hgc hg hput;go_enter Tryz.func177,Tryz.ntmps177;go_wp2_with (fail);refine K1.out.mono ?_;rintro e w1 ⟨rfl,h1,hs1⟩;have H1:=η h1;have HS1:=η hs1;clear h1 hs1;go_wp2_with (fail);refine(K3.out _ H1.out).mono ?_;rintro e w4 ⟨rv4,rfl,h4,hs4⟩;have H4:=η h4;have HS4:=η hs4;clear h4 hs4;go_wp2;go_ret;exact⟨_,rfl,H4.out,HS1.out.trans HS4.out⟩
end Go.Proofs.YtjobifclmcdjcaaGreatDoor
namespace Go.Proofs.YtjobifclmcdjcaaGreatDoor
open Go.RowKit Go.Shelf
namespace Rl
theorem loop_no{l:List Lx.Tk}{more:St→Res}{w:ByteArray}{n:Nat}{s:St}(h:isN l s.pos w=false):loop l more w n s=(s,0):=by
 cases n with
 | zero=>rfl
 | succ n=>rw[loop,if_neg (by rw[h];decide)]
theorem loop_bad{l:List Lx.Tk}{more:St→Res}{w:ByteArray}{n:Nat}{s:St}(h:isN l s.pos w=true)(h2:(more (adv s)).2≠0):loop l more w (n+1) s=more (adv s):=by rw[loop,if_pos h,if_neg h2]
theorem loop_full{l:List Lx.Tk}{more:St→Res}{w:ByteArray}{n:Nat}{s:St}(h:isN l s.pos w=true)(h2:(more (adv s)).2=0)(h3:(put (opOf w) (more (adv s)).1).2≠0):loop l more w (n+1) s=put (opOf w) (more (adv s)).1:=by rw[loop,if_pos h,if_pos h2,if_neg h3]
theorem loop_on{l:List Lx.Tk}{more:St→Res}{w:ByteArray}{n:Nat}{s:St}(h:isN l s.pos w=true)(h2:(more (adv s)).2=0)(h3:(put (opOf w) (more (adv s)).1).2=0):loop l more w (n+1) s=loop l more w n (put (opOf w) (more (adv s)).1).1:=by rw[loop,if_pos h,if_pos h2,if_pos h3]
end Rl
def RowsAll(R M:Nat)(A:Option Addr)(c:Nat)(l:List Lx.Tk)(g:FuncId)(b:Nat)(cs:Array Value)(v:Value)(p:Rl.St→Rl.Res)(o:Nat):Prop :=
 ∀ s:Rl.St,s.pos<l.length→s.deep=o→s.out.length≤40→∀(W:World) (rv:Value),Rd R M A c l s rv W→Blk W b 9 cs→Safe R rv W b →
  Calls Tryz.prog 176 #[.pointer (some ⟨R,0,none⟩),.func (.func g) #[.pointer (some ⟨R,0,none⟩)] #[],v] W (Told R M A c l rv W (p s))
theorem z7j{R M c:Nat}{A:Option Addr}{l:List Lx.Tk}{o:Nat}{g:FuncId}{p:Rl.St→Rl.Res}(hen:∀ args W,(callFunc g args).run Tryz.prog W=.ok (.enter g args) W)(hp:ParsesAll R M A c l g p o)(b:Nat)(cs:Array Value)(B:Option Addr)(cb:Nat) :
  RowsAll R M A c l g b cs (.slice B 0 cb) p o:=by
 intro s hpos hd ho w rv h _ _;have hP:=hp s hpos hd ho w rv h;have HP:=η hP;clear hP h hp;go_enter Tryz.func176,Tryz.ntmps176;go_wp2_with (fail);refine HP.out.mono ?_;rintro e w1 ⟨rv1,rfl,h1,hs1⟩;have H1:=η h1;have HS1:=η hs1;clear h1 hs1;go_wp2;go_ret;exact⟨_,rfl,H1.out,HS1.out⟩
structure Round (R M:Nat) (A:Option Addr) (c:Nat) (l:List Lx.Tk) (o:Nat) (b:Nat) (cs:Array Value) (rv0:Value) (w0:World) (whole:Rl.Res) (more:Rl.St→Rl.Res) (wd:ByteArray) (s:Rl.St) (n:Nat) (rv:Value) (W:World):Prop where
 rd:Rd R M A c l s rv W
 still:Still R rv0 rv w0 W
 blk:Blk W b 9 cs
 safe:Safe R rv W b
 pos:s.pos<l.length
 deep:s.deep=o
 out:s.out.length≤40
 fuel:l.length≤n+s.pos
 goal:whole=Rl.loop l more wd n s
def rpos(R:Nat)(W:World):Nat:=(intOf ((W.cell? ⟨R,1,none⟩).getD (.int .i64 0))).toNat
theorem q6s{R M c:Nat}{A:Option Addr}{l:List Lx.Tk}{s:Rl.St}{rv:Value}{W:World}(h:Rd R M A c l s rv W):rpos R W=s.pos:=by
 unfold rpos;rw[h.facts.1.2.1];rfl
theorem z9v{R M c:Nat}{A:Option Addr}{l:List Lx.Tk}{o:Nat}{sort:Bool}{g:FuncId}{p:Rl.St→Rl.Res}{ws:List ByteArray}{wd:ByteArray}(he:Rl.Ends l)(hl:l.length≤1000000)(b:Nat)(cs:Array Value)(hcs:cs[1]? = some (.string wd))(hg:Rl.Good l o sort (Rl.rows l p ws))(hm:RowsAll R M A c l g b cs (.slice (some ⟨b,1,none⟩) 0 0) (Rl.rows l p ws) o):RowsAll R M A c l g b cs (.slice (some ⟨b,1,none⟩) 1 1) (Rl.rows l p (wd :: ws)) o:=by
 intro s hpos hd ho w rv h hblk hsafe;have hwhole:Rl.rows l p (wd :: ws) s=if(Rl.rows l p ws s).2=0 then Rl.loop l (Rl.rows l p ws) wd l.length (Rl.rows l p ws s).1 else Rl.rows l p ws s:=rfl;generalize Rl.rows l p (wd :: ws) s=whole at *;generalize Rl.rows l p ws=more at *;have hc:w.cell? ⟨b,1,none⟩=some (.string wd):=by rw[hblk.cell];exact hcs
 have hM:=fun m=>hm s hpos hd ho (w.drewN m) rv (h.kept (q0f (Below.refl _ w) m)) (hblk.drewN m) hsafe
 obtain⟨a1,a2,a3⟩:=hg s hpos hd ho;have hblt:=hblk.lt;generalize more s=r at *;obtain⟨s1,n⟩:=r;dsimp only at hM a1 a2 a3 hwhole;have HM:=η hM;have HBLK:=η hblk;have HSAFE:=η hsafe;have HMORE:=η hm;clear hM h hblk hsafe hm hcs;by_cases hn:n=0
 ·obtain⟨b1,-,-⟩:=a3 hn;subst hn;rw[if_pos rfl] at hwhole;have HWH:=η hwhole;clear a3 hwhole;go_enter Tryz.func176,Tryz.ntmps176;go_wp2;go_quiet (fail);go_wp2_with (fail);refine(HM.out _).mono ?_;rintro e w1 ⟨rv1,rfl,h1,hs1⟩;have hR:Round R M A c l o b cs rv w whole more wd s1 l.length rv1 w1:=⟨h1,(Still.drewN (Still.refl R rv w) _).trans hs1,(hs1.block b HSAFE.out).trans HBLK.out,hs1.safe HSAFE.out,a1,b1,a2,by omega,HWH.out⟩;have HR:=η hR;clear h1 hs1 hR a1 a2 b1;go_wp2;go_loopw [10] (fun _ wr=>∃(st:Rl.St) (k:Nat) (rvk:Value),Hid (Round R M A c l o b cs rv w whole more wd st k rvk wr)) (fun _ wr=>l.length-rpos R wr);case atStart=>exact⟨_,_,_,HR.out⟩
  case round =>
   obtain⟨st,k,rvk,HK⟩:=hrel;have hpk:=HK.out.pos;obtain⟨k,rfl⟩:∃ k',k=k'+1:=⟨k-1,by have:=HK.out.fuel;omega⟩;have hp0:=q6s HK.out.rd;have HP0:=η hp0;clear hp0;cases hf:Rl.isN l st.pos wd
   ·have htk:=q3d wd wr HK.out.rd hpk hl hf;have HT:=η htk;have HE:=η (HK.out.goal.trans (Rl.loop_no hf));clear htk hf;go_wp2_with (fail);refine HT.out.mono ?_;rintro e w2 ⟨rfl,h2,hs2⟩;have H2:=η h2;have HS2:=η hs2;clear h2 hs2;go_wp2;go_ret;rw[HE.out];exact⟨_,rfl,H2.out,HK.out.still.trans HS2.out⟩
   ·have htk:=q2f wd wr HK.out.rd hpk hl hf;have HT:=η htk;have hlt:=Rl.isN_lt he hf;have hm2:=HMORE.out (Rl.adv st) hlt HK.out.deep HK.out.out;obtain⟨d1,d2,d3⟩:=hg (Rl.adv st) hlt HK.out.deep HK.out.out;have e1:=fun h2=>Rl.loop_bad (n:=k) (more:=more) hf h2
    have e2:=fun h2 h3=>Rl.loop_full (n:=k) (more:=more) hf h2 h3
    have e3:=fun h2 h3=>Rl.loop_on (n:=k) (more:=more) hf h2 h3
    generalize more (Rl.adv st)=r2 at *;obtain⟨s2,n2⟩:=r2;dsimp only at hm2 d1 d2 d3 e1 e2 e3;have HM2:=η hm2;clear htk hf hm2;by_cases hn2:n2=0
    ·obtain⟨g1,g2,-⟩:=d3 hn2;subst hn2;obtain⟨f1,f2,f3,-⟩:=Rl.put_good (Rl.opOf wd) s2 d2;have hput:=fun W rvp hW=>q3v (R:=R) (M:=M) (A:=A) (c:=c) (l:=l) (s:=s2) (rv:=rvp) wd W hW d2
     replace e2:=e2 rfl;replace e3:=e3 rfl;clear e1 d3;generalize Rl.put (Rl.opOf wd) s2=r3 at *;obtain⟨s3,n3⟩:=r3;dsimp only at hput e2 e3 f1 f2 f3;have HPUT:=η hput;clear hput;by_cases hn3:n3=0
     ·subst hn3;have HE:=η (HK.out.goal.trans (e3 rfl));clear e2 e3;go_wp2_with (fail);refine HT.out.mono ?_;rintro e w2 ⟨rfl,h2,hs2⟩;have hb2:=(hs2.block b HK.out.safe).trans HK.out.blk;have hsf2:=hs2.safe HK.out.safe;have hmm:=HM2.out w2 rvk h2 hb2 hsf2;have HMM:=η hmm;have HS2:=η hs2;have HB2:=η hb2;have HF2:=η hsf2;clear h2 hs2 hb2 hsf2 hmm;go_wp2_with (fail);refine HMM.out.mono ?_;rintro e w3 ⟨rv3,rfl,h3,hs3⟩;have hpp:=HPUT.out w3 rv3 h3;have HPP:=η hpp;have HS3:=η hs3;clear h3 hs3 hpp;go_wp2_with (fail);refine HPP.out.mono ?_;rintro e w4 ⟨rv4,rfl,h4,hs4⟩;have hs34:=HS3.out.trans hs4;have hst:Still R rv rv4 w w4:=HK.out.still.trans (HS2.out.trans hs34);have hrd:Round R M A c l o b cs rv w whole more wd s3 k rv4 w4:=⟨h4,hst,(hs34.block b HF2.out).trans HB2.out,hs34.safe HF2.out,by omega,by omega,f3,by have:=HK.out.fuel;have g2':st.pos+1<s2.pos:=g2;omega,HE.out⟩;have hp4:=q6s h4;have HP4:=η hp4;have HRD:=η hrd;clear h4 hs4 hs34 hst hrd hp4;go_wp2;go_roundw;case rel=>exact⟨_,_,_,HRD⟩
      case measure=>rw[HP4.out,HP0.out];have g2':st.pos+1<s2.pos:=g2;omega
     ·have hn4:((n3:Int) != 0)=true:=by rw[bne_iff_ne];omega
      have HE:=η (HK.out.goal.trans (e2 hn3));clear e2 e3 hn3;go_wp2_with (fail);refine HT.out.mono ?_;rintro e w2 ⟨rfl,h2,hs2⟩;have hmm:=HM2.out w2 rvk h2 ((hs2.block b HK.out.safe).trans HK.out.blk) (hs2.safe HK.out.safe);have HMM:=η hmm;have HS2:=η hs2;clear h2 hs2 hmm;go_wp2_with (fail);refine HMM.out.mono ?_;rintro e w3 ⟨rv3,rfl,h3,hs3⟩;have hpp:=HPUT.out w3 rv3 h3;have HPP:=η hpp;have HS3:=η hs3;clear h3 hs3 hpp;go_wp2_with (fail);refine HPP.out.mono ?_;rintro e w4 ⟨rv4,rfl,h4,hs4⟩;have H4:=η h4;have HS4:=η (HK.out.still.trans (HS2.out.trans (HS3.out.trans hs4)));clear h4 hs4;go_wp2;go_ret;rw[HE.out];exact⟨_,rfl,H4.out,HS4.out⟩
    ·have hn4:((n2:Int) != 0)=true:=by rw[bne_iff_ne];omega
     have HE:=η (HK.out.goal.trans (e1 hn2));clear e1 e2 e3 d3 hn2;go_wp2_with (fail);refine HT.out.mono ?_;rintro e w2 ⟨rfl,h2,hs2⟩;have hmm:=HM2.out w2 rvk h2 ((hs2.block b HK.out.safe).trans HK.out.blk) (hs2.safe HK.out.safe);have HMM:=η hmm;have HS2:=η hs2;clear h2 hs2 hmm;go_wp2_with (fail);refine HMM.out.mono ?_;rintro e w3 ⟨rv3,rfl,h3,hs3⟩;have H3:=η h3;have HS3:=η (HK.out.still.trans (HS2.out.trans hs3));clear h3 hs3;go_wp2;go_ret;rw[HE.out];exact⟨_,rfl,H3.out,HS3.out⟩
 ·rw[if_neg hn] at hwhole;have HWH:=η hwhole;have hn1:((n:Int) != 0)=true:=by rw[bne_iff_ne];omega
  clear hwhole hn a3;go_enter Tryz.func176,Tryz.ntmps176;go_wp2;go_quiet (fail);go_wp2_with (fail);refine(HM.out _).mono ?_;rintro e w1 ⟨rv1,rfl,h1,hs1⟩;have H1:=η h1;have HS1:=η ((Still.drewN (Still.refl R rv w) _).trans hs1);clear h1 hs1;go_wp2;go_ret;rw[HWH.out];exact⟨_,rfl,H1.out,HS1.out⟩
theorem z9x{R M c:Nat}{A:Option Addr}{l:List Lx.Tk}{o:Nat}{sort:Bool}{g:FuncId}{p:Rl.St→Rl.Res}{ws:List ByteArray}{wd:ByteArray}(he:Rl.Ends l)(hl:l.length≤1000000)(b:Nat)(cs:Array Value)(hcs:cs[0]? = some (.string wd))(hg:Rl.Good l o sort (Rl.rows l p ws))(hm:RowsAll R M A c l g b cs (.slice (some ⟨b,1,none⟩) 1 1) (Rl.rows l p ws) o):RowsAll R M A c l g b cs (.slice (some ⟨b,0,none⟩) 2 2) (Rl.rows l p (wd :: ws)) o:=by
 intro s hpos hd ho w rv h hblk hsafe;have hwhole:Rl.rows l p (wd :: ws) s=if(Rl.rows l p ws s).2=0 then Rl.loop l (Rl.rows l p ws) wd l.length (Rl.rows l p ws s).1 else Rl.rows l p ws s:=rfl;generalize Rl.rows l p (wd :: ws) s=whole at *;generalize Rl.rows l p ws=more at *;have hc:w.cell? ⟨b,0,none⟩=some (.string wd):=by rw[hblk.cell];exact hcs
 have hM:=fun m=>hm s hpos hd ho (w.drewN m) rv (h.kept (q0f (Below.refl _ w) m)) (hblk.drewN m) hsafe
 obtain⟨a1,a2,a3⟩:=hg s hpos hd ho;have hblt:=hblk.lt;generalize more s=r at *;obtain⟨s1,n⟩:=r;dsimp only at hM a1 a2 a3 hwhole;have HM:=η hM;have HBLK:=η hblk;have HSAFE:=η hsafe;have HMORE:=η hm;clear hM h hblk hsafe hm hcs;by_cases hn:n=0
 ·obtain⟨b1,-,-⟩:=a3 hn;subst hn;rw[if_pos rfl] at hwhole;have HWH:=η hwhole;clear a3 hwhole;go_enter Tryz.func176,Tryz.ntmps176;go_wp2;go_quiet (fail);go_wp2_with (fail);refine(HM.out _).mono ?_;rintro e w1 ⟨rv1,rfl,h1,hs1⟩;have hR:Round R M A c l o b cs rv w whole more wd s1 l.length rv1 w1:=⟨h1,(Still.drewN (Still.refl R rv w) _).trans hs1,(hs1.block b HSAFE.out).trans HBLK.out,hs1.safe HSAFE.out,a1,b1,a2,by omega,HWH.out⟩;have HR:=η hR;clear h1 hs1 hR a1 a2 b1;go_wp2;go_loopw [10] (fun _ wr=>∃(st:Rl.St) (k:Nat) (rvk:Value),Hid (Round R M A c l o b cs rv w whole more wd st k rvk wr)) (fun _ wr=>l.length-rpos R wr);case atStart=>exact⟨_,_,_,HR.out⟩
  case round =>
   obtain⟨st,k,rvk,HK⟩:=hrel;have hpk:=HK.out.pos;obtain⟨k,rfl⟩:∃ k',k=k'+1:=⟨k-1,by have:=HK.out.fuel;omega⟩;have hp0:=q6s HK.out.rd;have HP0:=η hp0;clear hp0;cases hf:Rl.isN l st.pos wd
   ·have htk:=q3d wd wr HK.out.rd hpk hl hf;have HT:=η htk;have HE:=η (HK.out.goal.trans (Rl.loop_no hf));clear htk hf;go_wp2_with (fail);refine HT.out.mono ?_;rintro e w2 ⟨rfl,h2,hs2⟩;have H2:=η h2;have HS2:=η hs2;clear h2 hs2;go_wp2;go_ret;rw[HE.out];exact⟨_,rfl,H2.out,HK.out.still.trans HS2.out⟩
   ·have htk:=q2f wd wr HK.out.rd hpk hl hf;have HT:=η htk;have hlt:=Rl.isN_lt he hf;have hm2:=HMORE.out (Rl.adv st) hlt HK.out.deep HK.out.out;obtain⟨d1,d2,d3⟩:=hg (Rl.adv st) hlt HK.out.deep HK.out.out;have e1:=fun h2=>Rl.loop_bad (n:=k) (more:=more) hf h2
    have e2:=fun h2 h3=>Rl.loop_full (n:=k) (more:=more) hf h2 h3
    have e3:=fun h2 h3=>Rl.loop_on (n:=k) (more:=more) hf h2 h3
    generalize more (Rl.adv st)=r2 at *;obtain⟨s2,n2⟩:=r2;dsimp only at hm2 d1 d2 d3 e1 e2 e3;have HM2:=η hm2;clear htk hf hm2;by_cases hn2:n2=0
    ·obtain⟨g1,g2,-⟩:=d3 hn2;subst hn2;obtain⟨f1,f2,f3,-⟩:=Rl.put_good (Rl.opOf wd) s2 d2;have hput:=fun W rvp hW=>q3v (R:=R) (M:=M) (A:=A) (c:=c) (l:=l) (s:=s2) (rv:=rvp) wd W hW d2
     replace e2:=e2 rfl;replace e3:=e3 rfl;clear e1 d3;generalize Rl.put (Rl.opOf wd) s2=r3 at *;obtain⟨s3,n3⟩:=r3;dsimp only at hput e2 e3 f1 f2 f3;have HPUT:=η hput;clear hput;by_cases hn3:n3=0
     ·subst hn3;have HE:=η (HK.out.goal.trans (e3 rfl));clear e2 e3;go_wp2_with (fail);refine HT.out.mono ?_;rintro e w2 ⟨rfl,h2,hs2⟩;have hb2:=(hs2.block b HK.out.safe).trans HK.out.blk;have hsf2:=hs2.safe HK.out.safe;have hmm:=HM2.out w2 rvk h2 hb2 hsf2;have HMM:=η hmm;have HS2:=η hs2;have HB2:=η hb2;have HF2:=η hsf2;clear h2 hs2 hb2 hsf2 hmm;go_wp2_with (fail);refine HMM.out.mono ?_;rintro e w3 ⟨rv3,rfl,h3,hs3⟩;have hpp:=HPUT.out w3 rv3 h3;have HPP:=η hpp;have HS3:=η hs3;clear h3 hs3 hpp;go_wp2_with (fail);refine HPP.out.mono ?_;rintro e w4 ⟨rv4,rfl,h4,hs4⟩;have hs34:=HS3.out.trans hs4;have hst:Still R rv rv4 w w4:=HK.out.still.trans (HS2.out.trans hs34);have hrd:Round R M A c l o b cs rv w whole more wd s3 k rv4 w4:=⟨h4,hst,(hs34.block b HF2.out).trans HB2.out,hs34.safe HF2.out,by omega,by omega,f3,by have:=HK.out.fuel;have g2':st.pos+1<s2.pos:=g2;omega,HE.out⟩;have hp4:=q6s h4;have HP4:=η hp4;have HRD:=η hrd;clear h4 hs4 hs34 hst hrd hp4;go_wp2;go_roundw;case rel=>exact⟨_,_,_,HRD⟩
      case measure=>rw[HP4.out,HP0.out];have g2':st.pos+1<s2.pos:=g2;omega
     ·have hn4:((n3:Int) != 0)=true:=by rw[bne_iff_ne];omega
      have HE:=η (HK.out.goal.trans (e2 hn3));clear e2 e3 hn3;go_wp2_with (fail);refine HT.out.mono ?_;rintro e w2 ⟨rfl,h2,hs2⟩;have hmm:=HM2.out w2 rvk h2 ((hs2.block b HK.out.safe).trans HK.out.blk) (hs2.safe HK.out.safe);have HMM:=η hmm;have HS2:=η hs2;clear h2 hs2 hmm;go_wp2_with (fail);refine HMM.out.mono ?_;rintro e w3 ⟨rv3,rfl,h3,hs3⟩;have hpp:=HPUT.out w3 rv3 h3;have HPP:=η hpp;have HS3:=η hs3;clear h3 hs3 hpp;go_wp2_with (fail);refine HPP.out.mono ?_;rintro e w4 ⟨rv4,rfl,h4,hs4⟩;have H4:=η h4;have HS4:=η (HK.out.still.trans (HS2.out.trans (HS3.out.trans hs4)));clear h4 hs4;go_wp2;go_ret;rw[HE.out];exact⟨_,rfl,H4.out,HS4.out⟩
    ·have hn4:((n2:Int) != 0)=true:=by rw[bne_iff_ne];omega
     have HE:=η (HK.out.goal.trans (e1 hn2));clear e1 e2 e3 d3 hn2;go_wp2_with (fail);refine HT.out.mono ?_;rintro e w2 ⟨rfl,h2,hs2⟩;have hmm:=HM2.out w2 rvk h2 ((hs2.block b HK.out.safe).trans HK.out.blk) (hs2.safe HK.out.safe);have HMM:=η hmm;have HS2:=η hs2;clear h2 hs2 hmm;go_wp2_with (fail);refine HMM.out.mono ?_;rintro e w3 ⟨rv3,rfl,h3,hs3⟩;have H3:=η h3;have HS3:=η (HK.out.still.trans (HS2.out.trans hs3));clear h3 hs3;go_wp2;go_ret;rw[HE.out];exact⟨_,rfl,H3.out,HS3.out⟩
 ·rw[if_neg hn] at hwhole;have HWH:=η hwhole;have hn1:((n:Int) != 0)=true:=by rw[bne_iff_ne];omega
  clear hwhole hn a3;go_enter Tryz.func176,Tryz.ntmps176;go_wp2;go_quiet (fail);go_wp2_with (fail);refine(HM.out _).mono ?_;rintro e w1 ⟨rv1,rfl,h1,hs1⟩;have H1:=η h1;have HS1:=η ((Still.drewN (Still.refl R rv w) _).trans hs1);clear h1 hs1;go_wp2;go_ret;rw[HWH.out];exact⟨_,rfl,H1.out,HS1.out⟩
end Go.Proofs.YtjobifclmcdjcaaGreatDoor
namespace Go.Proofs.YtjobifclmcdjcaaGreatDoor
open Go.RowKit Go.Shelf
attribute [local go_sem] Oper.semAt_some
theorem Rd.new_safe{R M c:Nat}{A:Option Addr}{l:List Lx.Tk}{s:Rl.St}{rv:Value}{w:World}(h:Rd R M A c l s rv w)(o:Obj):Safe R rv (w.alloc o) w.heap.size:=by
 refine⟨by simp,by have:=h.lt;omega,fun e=>?_⟩;have:=(h.own.lt _ e.symm).2;omega
theorem q9k{R M c:Nat}{A:Option Addr}{l:List Lx.Tk}{o:Nat}{sort:Bool}{g:FuncId}{p:Rl.St→Rl.Res}(hen:∀ args W,(callFunc g args).run Tryz.prog W=.ok (.enter g args) W)(he:Rl.Ends l)(hl:l.length≤1000000)(w1 w2:ByteArray)(hw:∀ w ∈ [w1,w2],∀ q,Rl.step q (Rl.opOf w)=Rl.two q sort sort)(hg:Rl.Good l o sort p)(hp:ParsesAll R M A c l g p o)(b:Nat):RowsAll R M A c l g b #[.string w1,.string w2] (.slice (some ⟨b,0,none⟩) 2 2) (Rl.rows l p [w1,w2]) o :=
 z9x he hl b _ rfl (Rl.rows_good he hg [w2] fun w h=>hw w (.tail _ h)) (z9v he hl b _ rfl (Rl.rows_good he hg [] fun w h=>by cases h) (z7j hen hp b _ _ _))
theorem z0h{R M c:Nat}{A:Option Addr}{l:List Lx.Tk}{o:Nat}{p:Rl.St→Rl.Res}(he:Rl.Ends l)(hl:l.length≤1000000)(hg:Rl.Good l o true p)(hp:ParsesAll R M A c l 178 p o) :
  ParsesAll R M A c l 163 (Rl.rows l p [Rl.wJoin,Rl.wMeet]) o:=by
 intro s hpos hd ho w rv h;have hmf:∀(fn:Fn) (first cap:Array Value) (w:World),(Instr.makeFunc fn first cap).run Tryz.prog w=.ok (.func fn first cap) w:=fun _ _ _ _=>rfl
 have hst:=(Still.refl R rv w).alloc (.cells #[.string Rl.wJoin,.string Rl.wMeet] 9);have hr:=q9k (sort:=true) Tryz.call178 he hl Rl.wJoin Rl.wMeet Rl.word_join hg hp w.heap.size s hpos hd ho _ rv (h.kept ((Below.refl _ w).alloc (Nat.le_refl _) _)) (Blk.new w 9 #[.string Rl.wJoin,.string Rl.wMeet]) (h.new_safe _);have HR:=η hr;have HST:=η hst;clear hr hst h hp hg;go_enter Tryz.func163,Tryz.ntmps163;go_wp2_with (fail);refine HR.out.mono ?_;rintro e w1 ⟨rv1,rfl,h1,hs1⟩;have H1:=η h1;have HS1:=η hs1;clear h1 hs1;go_wp2;go_ret;exact⟨_,rfl,H1.out,HST.out.trans HS1.out⟩
theorem z3q{R M c:Nat}{A:Option Addr}{l:List Lx.Tk}{o:Nat}{p:Rl.St→Rl.Res}(he:Rl.Ends l)(hl:l.length≤1000000)(hg:Rl.Good l o false p)(hp:ParsesAll R M A c l 177 p o) :
  ParsesAll R M A c l 162 (Rl.rows l p [Rl.wOr,Rl.wAnd]) o:=by
 intro s hpos hd ho w rv h;have hmf:∀(fn:Fn) (first cap:Array Value) (w:World),(Instr.makeFunc fn first cap).run Tryz.prog w=.ok (.func fn first cap) w:=fun _ _ _ _=>rfl
 have hst:=(Still.refl R rv w).alloc (.cells #[.string Rl.wOr,.string Rl.wAnd] 9);have hr:=q9k (sort:=false) Tryz.call177 he hl Rl.wOr Rl.wAnd Rl.word_or hg hp w.heap.size s hpos hd ho _ rv (h.kept ((Below.refl _ w).alloc (Nat.le_refl _) _)) (Blk.new w 9 #[.string Rl.wOr,.string Rl.wAnd]) (h.new_safe _);have HR:=η hr;have HST:=η hst;clear hr hst h hp hg;go_enter Tryz.func162,Tryz.ntmps162;go_wp2_with (fail);refine HR.out.mono ?_;rintro e w1 ⟨rv1,rfl,h1,hs1⟩;have H1:=η h1;have HS1:=η hs1;clear h1 hs1;go_wp2;go_ret;exact⟨_,rfl,H1.out,HST.out.trans HS1.out⟩
section
variable {R M c:Nat} {A:Option Addr} {l:List Lx.Tk}
theorem q37(he:Rl.Ends l)(hl:l.length≤1000000):∀(d o:Nat),o+d=12→ParsesAll R M A c l 163 (Rl.label l (d+1)) o
 | 0,o,h=>z0h he hl (Rl.atom_good he (by omega) fun h2=>absurd h2 (by omega)) fun s hpos hd ho w rv hr =>
   q92 w hr he hl hpos (by omega) ho (fun h2=>absurd h2 (by omega)) fun h2=>absurd h2 (by omega)
 | d+1,o,h=>z0h he hl (Rl.atom_good he (by omega) fun _=>Rl.label_good he d (o+1) (by omega)) fun s hpos hd ho w rv hr =>
   q92 w hr he hl hpos (by omega) ho
    (fun _ hn=>by
     obtain⟨g1,_,g3⟩:=Rl.label_good he d (o+1) (by omega) (Rl.into s) (Rl.isN_lt he hn) (by show s.deep+1=_;omega) ho
     exact⟨g1,fun hh=>by rw[(g3 hh).1,hd]⟩)
    fun _ hn=>q37 he hl d (o+1) (by omega) (Rl.into s) (Rl.isN_lt he hn) (by show s.deep+1=_;omega) ho
theorem q98(he:Rl.Ends l)(hl:l.length≤1000000):∀(d o:Nat),o+d=12→ParsesAll R M A c l 162 (Rl.cond l (d+1)) o
 | 0,o,h=>z3q he hl (Rl.prim_good he (by omega) (fun h2=>absurd h2 (by omega)) (Rl.label_good he 0 o h))
   (z02 he hl (by omega) (Rl.label_good he 0 o h) (q37 he hl 0 o h) (fun h2=>absurd h2 (by omega)) fun h2=>absurd h2 (by omega))
 | d+1,o,h=>z3q he hl (Rl.prim_good he (by omega) (fun _=>Rl.cond_good he d (o+1) (by omega)) (Rl.label_good he (d+1) o h))
   (z02 he hl (by omega) (Rl.label_good he (d+1) o h) (q37 he hl (d+1) o h) (fun _=>Rl.cond_good he d (o+1) (by omega)) fun _=>q98 he hl d (o+1) (by omega))
end
def IsInts(w:World)(B:Nat)(v:Value)(l:List Int):Prop:=∃ A c,v=.slice A l.length c∧Row w B A (ints l)∧l.length≤c
theorem IsInts.below{w w':World}{B:Nat}{v:Value}{l:List Int}(h:IsInts w B v l)(hb:Below B w w'):IsInts w' B v l:=by
 obtain⟨A,c,e,hr,hc⟩:=h;exact⟨A,c,e,hr.below hb,hc⟩
theorem IsInts.more{w:World}{B B':Nat}{v:Value}{l:List Int}(h:IsInts w B v l)(hB:B≤B'):IsInts w B' v l:=by
 obtain⟨A,c,e,hr,hc⟩:=h;exact⟨A,c,e,hr.more hB,hc⟩
theorem IsInts.nil(w:World)(B:Nat):IsInts w B (.slice none 0 0) []:=⟨none,0,rfl,Row.nil,Nat.le_refl _⟩
namespace Rl
def may(l:List Lx.Tk)(i:Int):Bool:=decide (0≤i∧i<l.length∧∃ t,l[l.length-1]? = some t∧t.kind=0)
def told(r:Res):List Int×Nat×Nat:=if r.2=0 then(r.1.out,r.1.pos,0) else([],r.1.pos,r.2)
def from_(l:List Lx.Tk)(i:Int)(lab:Bool):List Int×Nat×Nat:=if may l i=true then told (read l lab i.toNat) else([],0,1)
end Rl
def NewAt(B:Nat)(v:Value):Prop:=∀ ad n c,v=.slice (some ad) n c→B≤ad.block
def FromNew(w:World)(r:List Int×Nat×Nat)(e:Ending)(w':World):Prop :=
 ∃ v,e=.returned (.tuple #[v,.int .i64 (r.2.1:Int),.int .i64 (r.2.2:Int)])∧IsInts w' w'.heap.size v r.1∧Below w.heap.size w w'∧NewAt w.heap.size v
theorem z30{W:World}{base sz n:Nat}{e:TypeId}{v:Value}{xs:List Value}(h:W.ownsRow base e sz v n xs){B:Nat}(hB:B≤base):NewAt B v:=fun ad k c hv=>by
 rcases h.2 with⟨he,_⟩|⟨g,cap,cur,he,hb,_⟩
 ·rw[hv] at he;cases he
 ·rw[hv] at he
  injection he with e1 _ _
  injection e1 with e1
  subst e1
  exact Nat.le_trans hB hb
end Go.Proofs.YtjobifclmcdjcaaGreatDoor
namespace Go.Proofs.YtjobifclmcdjcaaGreatDoor
namespace Tb
open Sh (Tree Ok post)
open Lx (Tk pack)
structure PR where
 m:List Int
 r:List Int
 p:List Int
deriving DecidableEq
def PR.none:PR:=⟨[],[],[]⟩
def PR.put(x:PR)(j:Nat)(v:List Int):PR:=if j=0 then{ x with m:=v } else if j=1 then{ x with r:=v } else{ x with p:=v }
def okRules(x:PR):Bool:=Rl.right x.m false&&(Rl.right x.r true&&Rl.right x.p true)
def useOf(l:List Int):Nat:=if Rl.made l=true then Rl.usesOf l else 0
def over(op:Nat)(l:List Int):Bool:=decide (useOf l / 2 ^ (1+arity op)≠0)
def labE(op:Nat)(x:PR):Nat:=if(over op x.m || (over op x.r || over op x.p))=true then 7 else 0
def rowE(op:Nat)(x:PR):Nat:=if okRules x=true then labE op x else 1
def firstBad:Nat→List PR→Nat×Nat
 | _,[]=>(0,0)
 | op,x :: r=>if rowE op x=0 then firstBad (op+1) r else(op,rowE op x)
def check(l:List PR):Nat×Nat:=if l.length=13 then firstBad 0 l else(0,1)
theorem z2h{l:List PR}{op:Nat}:firstBad op l=(0,0)→∀ k x,l[k]? = some x→rowE (op+k) x=0:=by
 induction l generalizing op with
 | nil=>intro _ k x h;simp at h
 | cons y r ih =>
  intro h k x hk;unfold firstBad at h;by_cases hy:rowE op y=0
  ·rw[if_pos hy] at h;cases k with
   | zero =>
    simp only[List.getElem?_cons_zero,Option.some.injEq] at hk;subst hk;exact hy
   | succ k =>
    have:=ih h k x (by simpa using hk)
    rwa [show op+(k+1)=op+1+k by omega]
  ·rw[if_neg hy] at h;exact absurd (congrArg Prod.snd h) hy
theorem firstBad_of{l:List PR}{op:Nat}(h:∀ k x,l[k]? = some x→rowE (op+k) x=0):firstBad op l=(0,0):=by
 induction l generalizing op with
 | nil=>rfl
 | cons y r ih =>
  unfold firstBad;have h0:rowE op y=0:=h 0 y rfl;rw[if_pos h0];exact ih fun k x hk=>by
   have:=h (k+1) x (by simpa using hk)
   rwa [show op+(k+1)=op+1+k by omega] at this
theorem check_ok{l:List PR}(h:check l=(0,0)):l.length=13∧∀ k x,l[k]? = some x→rowE k x=0:=by
 unfold check at h;by_cases hl:l.length=13
 ·rw[if_pos hl] at h;exact⟨hl,fun k x hk=>by have:=z2h h k x hk;rwa [Nat.zero_add] at this⟩
 ·rw[if_neg hl] at h;exact absurd (congrArg Prod.snd h) (by decide)
def tok(l:List Tk)(k:Nat):Tk:=l.getD k ⟨0,ByteArray.empty,0⟩
def find(s:ByteArray):Option Nat:=(List.range 13).find? fun op=>decide (word op=s)
structure St where
 pos:Nat
 rows:List PR
 had:List Bool
def wordP(l:List Tk)(s:St):St×Nat×Nat :=
 if(tok l s.pos).kind=1 then
  (match find (tok l s.pos).text with
   | none=>(s,0,6)
   | some op=>if s.had.getD op false=true then(s,0,6) else({ s with had:=s.had.set op true,pos:=s.pos+1 },op,0))
 else(s,0,4)
def markP(l:List Tk)(m:ByteArray)(s:St):St×Nat:=if(tok l s.pos).text=m then({ s with pos:=s.pos+1 },0) else(s,4)
def partP(l:List Tk)(op j:Nat)(s:St):St×Nat :=
 if(Rl.from_ l s.pos (decide (j≠0))).2.2=0 then
  markP l mSemi { s with pos:=(Rl.from_ l s.pos (decide (j≠0))).2.1,rows:=s.rows.set op ((s.rows.getD op PR.none).put j (Rl.from_ l s.pos (decide (j≠0))).1) }
 else({ s with pos:=(Rl.from_ l s.pos (decide (j≠0))).2.1 },(Rl.from_ l s.pos (decide (j≠0))).2.2)
def partsP(l:List Tk)(op:Nat):Nat→Nat→St→St×Nat
 | 0,_,s=>(s,0)
 | n+1,j,s=>if(partP l op j s).2=0 then partsP l op n (j+1) (partP l op j s).1 else partP l op j s
def endP(op i:Nat)(r:St×Nat):St×Nat :=
 if r.2=0 then(if labE op (r.1.rows.getD op PR.none)=0 then r else({ r.1 with pos:=i },7)) else r
def rowP(l : List Tk)(s : St) : St × Nat :=
  if (wordP l s).2.2 = 0 then
    (if (markP l mColon (wordP l s).1).2 = 0 then endP (wordP l s).2.1 s.pos (partsP l (wordP l s).2.1 3 0 (markP l mColon (wordP l s).1).1)
     else markP l mColon (wordP l s).1)
  else ((wordP l s).1, (wordP l s).2.2)
def tableP(l:List Tk):Nat→St→St×Nat
 | 0,s=>(s,0)
 | n+1,s=>if(tok l s.pos).kind=0 then(if s.had.contains false=true then(s,9) else(s,0))
  else if(rowP l s).2=0 then tableP l n (rowP l s).1 else rowP l s
def start:St:=⟨0,List.replicate 13 PR.none,List.replicate 13 false⟩
def parseL(x:List Tk×Nat×Nat):List PR×Int×Nat :=
 if x.2.2=0 then(if(tableP x.1 x.1.length start).2=0 then((tableP x.1 x.1.length start).1.rows,0,0) else([],(tok x.1 (tableP x.1 x.1.length start).1.pos).pos,(tableP x.1 x.1.length start).2))
 else([],x.2.1,x.2.2)
def parse(s:List UInt8):List PR×Int×Nat:=parseL (Lx.lex s)
def Fine(l:List Tk):Prop:=∃ p,l[l.length-1]? = some ⟨0,ByteArray.empty,p⟩
theorem Fine.ends{l:List Tk}(h:Fine l):Rl.Ends l:=by
 obtain⟨p,hp⟩:=h;exact Rl.ends_of hp rfl
theorem Fine.may{l:List Tk}(h:Fine l){i:Nat}(hi:i<l.length):Rl.may l i=true:=by
 obtain⟨p,hp⟩:=h;exact decide_eq_true ⟨by omega,by omega,_,hp,rfl⟩
theorem Fine.from_{l:List Tk}(h:Fine l){i:Nat}(hi:i<l.length)(b:Bool):Rl.from_ l i b=Rl.told (Rl.read l b i):=by
 rw[Rl.from_,if_pos (h.may hi),Int.toNat_natCast]
theorem find_word{op:Nat}(h:op<13):find (word op)=some op:=by
 have h1:∀ op<13,find (word op)=some op:=by decide +kernel
 exact h1 op h
theorem find_some{s:ByteArray}{op:Nat}(h:find s=some op):op<13∧word op=s:=by
 have h1:=List.find?_some h;have h2:=List.mem_of_find?_eq_some h;exact⟨List.mem_range.1 h2,of_decide_eq_true h1⟩
theorem set_getD(l:List PR)(op:Nat)(v:PR)(h:op<l.length):(l.set op v).getD op PR.none=v:=by
 rw[List.getD_eq_getElem?_getD,List.getElem?_set_self h];rfl
end Tb
namespace Tb
open Lx (Tk pack)
theorem lex_fine{s:List UInt8}{l:List Tk}{a:Nat}(h:Lx.lex s=(l,a,0)):Fine l∧0<l.length∧l.length≤200∧a=0:=by
 obtain⟨ts,rfl,h2,_⟩:=Lx.lex_ok h;refine⟨⟨(s.length:Nat),by simp⟩,by simp,by simp;omega,?_⟩;unfold Lx.lex at h;by_cases h1:2000<s.length
 ·rw[if_pos h1] at h;exact absurd (show(8:Nat)=0 from congrArg (fun x=>x.2.2) h) (by decide)
 ·rw[if_neg h1] at h;by_cases h3:(Lx.toks s.length s 0).2<s.length
  ·rw[if_pos h3] at h;exact absurd (show(4:Nat)=0 from congrArg (fun x=>x.2.2) h) (by decide)
  ·rw[if_neg h3] at h;by_cases h4:200<(Lx.toks s.length s 0).1.length+1
   ·rw[if_pos h4] at h;exact absurd (show(8:Nat)=0 from congrArg (fun x=>x.2.2) h) (by decide)
   ·rw[if_neg h4] at h;exact(congrArg (fun x=>x.2.1) h).symm
section
variable {l:List Tk}
structure Stand (l:List Tk) (s:St):Prop where
 pos:s.pos<l.length
 rows:s.rows.length=13
 had:s.had.length=13
theorem tok_some{k:Nat}(h:k<l.length):l[k]? = some (tok l k):=by
 unfold tok;rw[List.getD_eq_getElem?_getD,List.getElem?_eq_getElem h];rfl
theorem q6n(hf:Fine l){k:Nat}(h:k<l.length)(hk:(tok l k).kind≠0∨(tok l k).text≠ByteArray.empty):k+1<l.length:=by
 obtain⟨p,hp⟩:=hf;by_cases e:k=l.length-1
 ·subst e;rw[tok_some h] at hp;injection hp with hp;rw[hp] at hk;rcases hk with h1|h1<;>exact absurd rfl h1
 ·omega
theorem markP_stand(hf:Fine l){m:ByteArray}(hm:m≠ByteArray.empty){s:St}(h:Stand l s):Stand l (markP l m s).1:=by
 unfold markP;by_cases ht:(tok l s.pos).text=m
 ·rw[if_pos ht];exact⟨q6n hf h.pos (.inr (by rw[ht];exact hm)),h.rows,h.had⟩
 ·rw[if_neg ht];exact h
theorem z0n{m:ByteArray}{s:St}(h:(markP l m s).2=0):(markP l m s).1 = { s with pos:=s.pos+1 }:=by
 unfold markP at h ⊢;by_cases ht:(tok l s.pos).text=m
 ·rw[if_pos ht]
 ·rw[if_neg ht] at h;cases h
theorem wordP_stand(hf:Fine l){s:St}(h:Stand l s):Stand l (wordP l s).1:=by
 unfold wordP;by_cases hk:(tok l s.pos).kind=1
 ·rw[if_pos hk];cases find (tok l s.pos).text with
  | none=>exact h
  | some op =>
   dsimp only;by_cases hh:s.had.getD op false=true
   ·rw[if_pos hh];exact h
   ·rw[if_neg hh];exact⟨q6n hf h.pos (.inl (by rw[hk];decide)),h.rows,by rw[List.length_set];exact h.had⟩
 ·rw[if_neg hk];exact h
theorem wordP_ok{s:St}(h:(wordP l s).2.2=0):∃ op,op<13∧s.had.getD op false=false∧wordP l s=(⟨s.pos+1,s.rows,s.had.set op true⟩,op,0):=by
 unfold wordP at h ⊢;by_cases hk:(tok l s.pos).kind=1
 ·rw[if_pos hk] at h ⊢;cases hq:find (tok l s.pos).text with
  | none=>rw[hq] at h;cases h
  | some op =>
   rw[hq] at h;dsimp only at h ⊢;by_cases hh:s.had.getD op false=true
   ·rw[if_pos hh] at h;cases h
   ·rw[if_neg hh];exact⟨op,(find_some hq).1,by simpa using hh,rfl⟩
 ·rw[if_neg hk] at h;cases h
theorem from_lt(hf:Fine l){i:Nat}(hi:i<l.length)(b:Bool):(Rl.from_ l i b).2.1<l.length∧(Rl.from_ l i b).1.length≤40:=by
 have h1:=Rl.read_lt hf.ends b i hi;rw[hf.from_ hi];unfold Rl.told;split
 ·exact h1
 ·exact⟨h1.1,Nat.zero_le _⟩
theorem j00(hf:Fine l){i:Nat}(hi:i<l.length)(b:Bool)(h:(Rl.from_ l i b).2.2=0):Rl.right (Rl.from_ l i b).1 b=true∧i<(Rl.from_ l i b).2.1:=by
 rw[hf.from_ hi] at h ⊢;unfold Rl.told at h ⊢;by_cases h0:(Rl.read l b i).2=0
 ·rw[if_pos h0];have:=Rl.read_right hf.ends b i hi h0;exact⟨this.1,this.2.2.1⟩
 ·rw[if_neg h0] at h;exact absurd h h0
theorem semi_ne:mSemi≠ByteArray.empty:=by decide
theorem colon_ne:mColon≠ByteArray.empty:=by decide
theorem q69(hf:Fine l){op j:Nat}{s:St}(h:Stand l s):Stand l (partP l op j s).1:=by
 have h1:=(from_lt hf h.pos (decide (j≠0))).1;unfold partP;split
 ·exact markP_stand hf semi_ne ⟨h1,by rw[List.length_set];exact h.rows,h.had⟩
 ·exact⟨h1,h.rows,h.had⟩
theorem q7q(hf:Fine l){op j:Nat}{s:St}(h:Stand l s)(h0:(partP l op j s).2=0):∃ pos a,(partP l op j s).1=⟨pos,s.rows.set op ((s.rows.getD op PR.none).put j a),s.had⟩∧Rl.right a (decide (j≠0))=true∧s.pos<pos:=by
 have h1:=j00 hf h.pos (decide (j≠0));unfold partP at h0 ⊢;by_cases he:(Rl.from_ l s.pos (decide (j≠0))).2.2=0
 ·rw[if_pos he] at h0 ⊢;exact⟨_,_,z0n h0,(h1 he).1,Nat.lt_succ_of_lt (h1 he).2⟩
 ·rw[if_neg he] at h0;exact absurd h0 he
theorem partsP_ok(hf:Fine l){op:Nat}(hop:op<13){s:St}(h:Stand l s)(h0:(partsP l op 3 0 s).2=0) :
  ∃ pos x,(partsP l op 3 0 s).1=⟨pos,s.rows.set op x,s.had⟩∧okRules x=true∧s.pos<pos:=by
 unfold partsP at h0 ⊢;by_cases e0:(partP l op 0 s).2=0
 ·rw[if_pos e0] at h0 ⊢;obtain⟨p0,a,q0,r0,l0⟩:=q7q hf h e0;have g0:=q69 (op:=op) (j:=0) hf h;unfold partsP at h0 ⊢;by_cases e1:(partP l op (0+1) (partP l op 0 s).1).2=0
  ·rw[if_pos e1] at h0 ⊢;obtain⟨p1,b,q1,r1,l1⟩:=q7q hf g0 e1;have g1:=q69 (op:=op) (j:=0+1) hf g0;unfold partsP at h0 ⊢;by_cases e2:(partP l op (0+1+1) (partP l op (0+1) (partP l op 0 s).1).1).2=0
   ·rw[if_pos e2] at h0 ⊢;obtain⟨p2,c,q2,r2,l2⟩:=q7q hf g1 e2;unfold partsP;rw[q2,q1,q0];rw[q0] at l1;have l2:p1<p2:=by rw[q1] at l2;exact l2
    dsimp only at l0 l1 l2 ⊢;have hrl:=h.rows;rw[set_getD _ _ _ (by simpa [hrl] using hop),List.set_set,set_getD _ _ _ (by simpa [hrl] using hop),List.set_set];refine⟨p2,_,rfl,?_,by omega⟩;have hpr:(((s.rows.getD op PR.none).put 0 a).put (0+1) b).put (0+1+1) c=⟨a,b,c⟩:=rfl;rw[hpr];unfold okRules;have x0:Rl.right a false=true:=r0;have x1:Rl.right b true=true:=r1;have x2:Rl.right c true=true:=r2;rw[x0,x1,x2];rfl
   ·rw[if_neg e2] at h0;exact absurd h0 e2
  ·rw[if_neg e1] at h0;exact absurd h0 e1
 ·rw[if_neg e0] at h0;exact absurd h0 e0
theorem rowP_ok(hf:Fine l){s:St}(h:Stand l s)(h0:(rowP l s).2=0):∃ op x pos,op<13∧s.had.getD op false=false∧rowE op x=0∧(rowP l s).1=⟨pos,s.rows.set op x,s.had.set op true⟩∧s.pos<pos:=by
 have hw:=wordP_stand hf h;have hm:=markP_stand hf colon_ne hw;unfold rowP at h0 ⊢;by_cases e0:(wordP l s).2.2=0
 ·rw[if_pos e0] at h0 ⊢;obtain⟨op,hop,hh,e⟩:=wordP_ok e0;by_cases e1:(markP l mColon (wordP l s).1).2=0
  ·rw[if_pos e1] at h0 ⊢;have e2:=z0n e1;by_cases e3:(partsP l (wordP l s).2.1 3 0 (markP l mColon (wordP l s).1).1).2=0
   ·obtain⟨pos,x,q,r,lt⟩:=partsP_ok hf (op:=(wordP l s).2.1) (by rw[e];exact hop) hm e3;unfold endP at h0 ⊢;rw[if_pos e3] at h0 ⊢;have e4:(partsP l (wordP l s).2.1 3 0 (markP l mColon (wordP l s).1).1).1=⟨pos,s.rows.set op x,s.had.set op true⟩:=by
     rw[q,e2,e]
    by_cases e5:labE (wordP l s).2.1 ((partsP l (wordP l s).2.1 3 0 (markP l mColon (wordP l s).1).1).1.rows.getD (wordP l s).2.1 PR.none)=0
    ·rw[if_pos e5] at h0 ⊢;refine⟨op,x,pos,hop,hh,?_,e4,?_⟩
     ·rw[e4,e] at e5;dsimp only at e5;rw[set_getD _ _ _ (by rw[h.rows];exact hop)] at e5;unfold rowE;rw[if_pos r];exact e5
     ·rw[e2,e] at lt;dsimp only at lt;omega
    ·rw[if_neg e5] at h0;exact absurd (show(7:Nat)=0 from h0) (by decide)
   ·unfold endP at h0;rw[if_neg e3] at h0;exact absurd h0 e3
  ·rw[if_neg e1] at h0;exact absurd h0 e1
 ·rw[if_neg e0] at h0;exact absurd h0 e0
end
theorem start_stand{l:List Tk}(h:0<l.length):Stand l start:=⟨h,by simp[start],by simp[start]⟩
end Tb
end Go.Proofs.YtjobifclmcdjcaaGreatDoor
namespace Go.Proofs.YtjobifclmcdjcaaGreatDoor
open Go.RowKit Go.Shelf
attribute [local go_sem] Oper.semAt_some
theorem FromNew.bad{w w':World}(a n:Nat)(hb:Below w.heap.size w w'):FromNew w ([],a,n) (.returned (.tuple #[.slice none 0 0,.int .i64 (a:Int),.int .i64 (n:Int)])) w':=⟨_,rfl,IsInts.nil _ _,hb,fun _ _ _ e=>by cases e⟩
def began(w:World)(A:Option Addr)(n c:Nat)(i:Nat):World:=(w.alloc (.map (putsTo 13) 13)).alloc (.cells #[.slice A n c,.int .i64 (i:Int),.int .i64 0,.slice none 0 0,.map (some w.heap.size)] 216)
theorem z76{A:Option Addr}{l:List Lx.Tk}{w:World}(c i:Nat)(h:Row w w.heap.size A (tcells l)):Rd (w.heap.size+1) w.heap.size A c l ⟨i,0,[]⟩ (.slice none 0 0) (began w A l.length c i):=by
 have hb:Below w.heap.size w (began w A l.length c i):=((Below.refl _ w).alloc (Nat.le_refl _) _).alloc (by simp) _;have hz:(began w A l.length c i).heap.size=w.heap.size+2:=by unfold began;simp
 have hblk:Blk (began w A l.length c i) (w.heap.size+1) 216 #[.slice A l.length c,.int .i64 (i:Int),.int .i64 0,.slice none 0 0,.map (some w.heap.size)]:=by
  have:=Blk.new (w.alloc (.map (putsTo 13) 13)) 216 #[.slice A l.length c,.int .i64 (i:Int),.int .i64 0,.slice none 0 0,.map (some w.heap.size)]
  rwa [World.size_alloc] at this
 refine⟨hblk,World.ownsRow_nil _ _ _ _,fun hn=>?_,?_,⟨by rw[hz];omega,by omega,fun e=>by cases e⟩⟩
 ·obtain⟨ad,e,hk,hc⟩:=h hn;exact⟨ad,e,⟨by rw[hz];omega,by omega,fun e=>by cases e⟩,fun j u hu=>(hb.cell (by rw[q0a];exact hk)).trans (hc j u hu)⟩
 ·exact(Below.heap_alloc _ _ _ (by simp)).trans (World.alloc_heap_new w _)
theorem z1u{A:Option Addr}{w w':World}{n c i:Nat}{rv:Value}(h:Still (w.heap.size+1) (.slice none 0 0) rv (began w A n c i) w'):Below w.heap.size w w':=by
 have hb:Below w.heap.size w (began w A n c i):=((Below.refl _ w).alloc (Nat.le_refl _) _).alloc (by simp) _;refine hb.trans ⟨h.os,h.tape,h.output,h.size,fun k hk=>h.block k ⟨?_,by omega,fun e=>by cases e⟩⟩;have:=hb.size;omega
theorem z6x{l:List Lx.Tk}{i:Int}{lab:Bool}(h:Rl.may l i=false):Rl.from_ l i lab=([],0,1):=by unfold Rl.from_;rw[h];rfl
theorem j1a{l:List Lx.Tk}{i:Int}{lab:Bool}(h:Rl.may l i=true):Rl.from_ l i lab=Rl.told (Rl.read l lab i.toNat):=by unfold Rl.from_;rw[h];rfl
theorem z8l{A:Option Addr}{l:List Lx.Tk}(c:Nat)(i:Int)(lab:Bool)(w:World)(h:¬(0≤i∧i<l.length)):Calls Tryz.prog 142 #[.slice A l.length c,.int .i64 i,.bool lab] w (FromNew w (Rl.from_ l i lab)):=by
 have hm:Rl.may l i=false:=decide_eq_false fun hh=>h ⟨hh.1,hh.2.1⟩
 rw[z6x hm];clear hm;by_cases h0:i<0
 ·clear h;go_enter Tryz.func142,Tryz.ntmps142;go_wp2;go_ret3;exact FromNew.bad 0 1 (Below.refl _ _)
 ·have h1:(l.length:Int)≤i:=by omega
  clear h;go_enter Tryz.func142,Tryz.ntmps142;go_wp2;go_ret3;exact FromNew.bad 0 1 (Below.refl _ _)
theorem z6m{A:Option Addr}{l:List Lx.Tk}(c:Nat)(i:Int)(lab:Bool)(w:World)(hr:Row w w.heap.size A (tcells l))(hl:l.length≤1000000)(h0:0≤i)(h1:i<l.length)(hm:Rl.may l i=false):Calls Tryz.prog 142 #[.slice A l.length c,.int .i64 i,.bool lab] w (FromNew w (Rl.from_ l i lab)):=by
 rw[z6x hm];obtain⟨n,hn⟩:∃ n,l.length=n+1:=⟨l.length-1,by omega⟩;obtain⟨ad,t,rfl,-,ht,c0,-,-⟩:=q3e hr (show n<l.length by omega);have hk:t.kind≠0:=fun hk=>by
  have:Rl.may l i=true:=decide_eq_true ⟨h0,h1,t,by rw[hn];exact ht,hk⟩;rw[this] at hm;cases hm
 have hk0:(t.kind != 0)=true:=by rw[bne_iff_ne];exact hk
 rw[hn] at h1 ⊢;have h2:i<(n:Int)+1:=by omega
 have hnb:n≤1000000:=by omega
 clear hm hr ht hk hn h1 hl;go_enter Tryz.func142,Tryz.ntmps142;go_wp2;go_ret3;exact FromNew.bad 0 1 (Below.refl _ _)
theorem z6l{A:Option Addr}{l:List Lx.Tk}(c:Nat)(i:Int)(lab:Bool)(w:World)(hr:Row w w.heap.size A (tcells l))(hl:l.length≤1000000)(hm:Rl.may l i=true):Calls Tryz.prog 142 #[.slice A l.length c,.int .i64 i,.bool lab] w (FromNew w (Rl.from_ l i lab)):=by
 rw[j1a hm];obtain⟨h0,h1,t,ht,hk⟩:=of_decide_eq_true hm;obtain⟨k,rfl⟩:∃ k:Nat,i=k:=⟨i.toNat,by omega⟩;rw[Int.toNat_natCast];have hmf:∀(fn:Fn) (first cap:Array Value) (w:World),(Instr.makeFunc fn first cap).run Tryz.prog w=.ok (.func fn first cap) w:=fun _ _ _ _=>rfl
 have he:=Rl.ends_of ht hk;have hkl:k<l.length:=by omega
 have hrd:=z76 c k hr;have hlab:=q37 (R:=w.heap.size+1) (M:=w.heap.size) (A:=A) (c:=c) he hl 12 0 rfl ⟨k,0,[]⟩ hkl rfl (by simp) _ _ hrd;have hcnd:=q98 (R:=w.heap.size+1) (M:=w.heap.size) (A:=A) (c:=c) he hl 12 0 rfl ⟨k,0,[]⟩ hkl rfl (by simp) _ _ hrd;have hbst:=fun w' rv=>z1u (A:=A) (w:=w) (w':=w') (n:=l.length) (c:=c) (i:=k) (rv:=rv)
 obtain⟨n,hn⟩:∃ n,l.length=n+1:=⟨l.length-1,by omega⟩;obtain⟨ad,t',rfl,-,ht',c0,-,-⟩:=q3e hr (show n<l.length by omega);rw[hn,Nat.add_sub_cancel,ht'] at ht;injection ht with ht;subst ht;rw[hk] at c0;have hb0:=World.size_alloc w (.map (putsTo 13) 13);unfold began at hlab hcnd hbst;rw[hn] at hlab hcnd hbst ⊢;have hk1:(k:Int)<(n:Int)+1:=by omega
 have hnb:n≤1000000:=by omega
 have HN:Hid (l.length=n+1):=hn;have HP:=η (z9k w);have HBS:=η hbst;cases lab
 ·have hread:Rl.read l false k=Rl.cond l 13 ⟨k,0,[]⟩:=rfl;rw[hread];clear hread hlab;generalize Rl.cond l 13 ⟨k,0,[]⟩=r at *;obtain⟨s1,m⟩:=r;have HC:=η hcnd;clear hcnd hm hr hk ht' hn h1 hrd hbst hb0;by_cases hm0:m=0
  ·subst hm0;go_enter Tryz.func142,Tryz.ntmps142;go_wp2_with (go_at_call 161;refine HP.out.mono ?_;rintro e w' ⟨rfl,rfl⟩);refine HC.out.mono ?_;rintro e w1 ⟨rv1,rfl,h1,hs1⟩;obtain⟨⟨-,c1,-,c3,-⟩,-⟩:=h1.facts;obtain⟨A1,cap,rfl⟩:=q0b h1.own;have hfin:∀ q,FromNew w (Rl.told (s1,0)) (.returned (.tuple #[.slice A1 s1.out.length cap,.int .i64 s1.pos,.int .i64 0])) (w1.drewN q):=fun q =>
    ⟨_,rfl,⟨A1,cap,rfl,(ownT_row h1.own).1,(ownT_row h1.own).2⟩,q0f (HBS.out _ _ hs1) q,z30 h1.own (by omega)⟩
   have HF:=η hfin;clear h1 hs1 hfin;go_wp2;go_quiet (fail);go_wp2;go_ret3;exact HF.out _
  ·have hn1:((m:Int) != 0)=true:=by rw[bne_iff_ne];omega
   go_enter Tryz.func142,Tryz.ntmps142;go_wp2_with (go_at_call 161;refine HP.out.mono ?_;rintro e w' ⟨rfl,rfl⟩);refine HC.out.mono ?_;rintro e w1 ⟨rv1,rfl,h1,hs1⟩;obtain⟨⟨-,c1,-,-,-⟩,-⟩:=h1.facts;have hfin:∀ q,FromNew w (Rl.told (s1,m)) (.returned (.tuple #[.slice none 0 0,.int .i64 s1.pos,.int .i64 m])) (w1.drewN q):=fun q=>by
    unfold Rl.told;rw[if_neg hm0];exact FromNew.bad _ _ (q0f (HBS.out _ _ hs1) q)
   have HF:=η hfin;clear h1 hs1 hfin hm0;go_wp2;go_quiet (fail);go_wp2;go_ret3;exact HF.out _
 ·have hread:Rl.read l true k=Rl.label l 13 ⟨k,0,[]⟩:=rfl;rw[hread];clear hread hcnd;generalize Rl.label l 13 ⟨k,0,[]⟩=r at *;obtain⟨s1,m⟩:=r;have HC:=η hlab;clear hlab hm hr hk ht' hn h1 hrd hbst hb0;by_cases hm0:m=0
  ·subst hm0;go_enter Tryz.func142,Tryz.ntmps142;go_wp2_with (go_at_call 161;refine HP.out.mono ?_;rintro e w' ⟨rfl,rfl⟩);refine HC.out.mono ?_;rintro e w1 ⟨rv1,rfl,h1,hs1⟩;obtain⟨⟨-,c1,-,c3,-⟩,-⟩:=h1.facts;obtain⟨A1,cap,rfl⟩:=q0b h1.own;have hfin:∀ q,FromNew w (Rl.told (s1,0)) (.returned (.tuple #[.slice A1 s1.out.length cap,.int .i64 s1.pos,.int .i64 0])) (w1.drewN q):=fun q =>
    ⟨_,rfl,⟨A1,cap,rfl,(ownT_row h1.own).1,(ownT_row h1.own).2⟩,q0f (HBS.out _ _ hs1) q,z30 h1.own (by omega)⟩
   have HF:=η hfin;clear h1 hs1 hfin;go_wp2;go_quiet (fail);go_wp2;go_ret3;exact HF.out _
  ·have hn1:((m:Int) != 0)=true:=by rw[bne_iff_ne];omega
   go_enter Tryz.func142,Tryz.ntmps142;go_wp2_with (go_at_call 161;refine HP.out.mono ?_;rintro e w' ⟨rfl,rfl⟩);refine HC.out.mono ?_;rintro e w1 ⟨rv1,rfl,h1,hs1⟩;obtain⟨⟨-,c1,-,-,-⟩,-⟩:=h1.facts;have hfin:∀ q,FromNew w (Rl.told (s1,m)) (.returned (.tuple #[.slice none 0 0,.int .i64 s1.pos,.int .i64 m])) (w1.drewN q):=fun q=>by
    unfold Rl.told;rw[if_neg hm0];exact FromNew.bad _ _ (q0f (HBS.out _ _ hs1) q)
   have HF:=η hfin;clear h1 hs1 hfin hm0;go_wp2;go_quiet (fail);go_wp2;go_ret3;exact HF.out _
theorem z6k{A:Option Addr}{l:List Lx.Tk}(c:Nat)(i:Int)(lab:Bool)(w:World)(hr:Row w w.heap.size A (tcells l))(hl:l.length≤1000000):Calls Tryz.prog 142 #[.slice A l.length c,.int .i64 i,.bool lab] w (FromNew w (Rl.from_ l i lab)):=by
 by_cases h:0≤i∧i<l.length
 ·cases hm:Rl.may l i
  ·exact z6m c i lab w hr hl h.1 h.2 hm
  ·exact z6l c i lab w hr hl hm
 ·exact z8l c i lab w h
end Go.Proofs.YtjobifclmcdjcaaGreatDoor
namespace Go.Proofs.YtjobifclmcdjcaaGreatDoor
open Go.RowKit Go.Shelf
def sortN(b:Bool):Int:=if b then 2 else 1
def sorts(q:List Bool):List Int:=q.map sortN
theorem q5k(q:List Bool)(b:Bool):sorts (q++[b])=sorts q++[sortN b]:=by simp[sorts]
theorem q5l(q:List Bool)(k:Nat):(ints (sorts q)).take k=ints (sorts (q.take k)):=by simp[sorts,ints,List.map_take]
def NPile(base:Nat)(W:World)(v:Value)(q:List Bool):Prop:=W.ownsRow base 3 1 v q.length (ints (sorts q))
def lastTwo(q:List Bool)(b:Bool):Bool:=(Rl.two q b b).isSome
theorem z1n(q:List Bool)(a b:Bool):Rl.two q a b=if lastTwo q a=true then some (q.take (q.length-2)++[b]) else none:=by
 unfold lastTwo Rl.two;by_cases h:2≤q.length∧q[q.length-2]? = some a∧q[q.length-1]? = some a
 ·rw[if_pos h,if_pos h];rfl
 ·rw[if_neg h,if_neg h];rfl
theorem q7t{base:Nat}{q:List Bool}{v:Value}(b:Bool)(w:World)(h:NPile base w v q)(hl:q.length≤1000000):Calls Tryz.prog 152 #[v,.int .i64 (sortN b)] w fun e w'=>e=.returned (.bool (lastTwo q b))∧w=w':=by
 by_cases hs:q.length<2
 ·have e:lastTwo q b=false:=by unfold lastTwo;rw[q83 hs];rfl
  rw[e];obtain⟨A,cap,rfl⟩:=q0b h;have h0:(q.length:Int)<2:=by omega
  have h1:¬(2:Int)≤(q.length:Int):=by omega
  clear h e hs;go_enter Tryz.func152,Tryz.ntmps152;go_wp2;go_ret;exact⟨rfl,rfl⟩
 ·obtain⟨n,hq⟩:∃ n,q.length=n+2:=⟨q.length-2,by omega⟩;obtain⟨g,cap,rfl,-⟩:=q1y h (by omega);have hx0:q[n]? = some q[n]:=List.getElem?_eq_getElem (by omega);have hx1:q[n+1]? = some q[n+1]:=List.getElem?_eq_getElem (by omega);obtain⟨x0,e0⟩:∃ x,q[n]=x:=⟨_,rfl⟩;obtain⟨x1,e1⟩:∃ x,q[n+1]=x:=⟨_,rfl⟩;rw[e0] at hx0;rw[e1] at hx1;have c0:=q1g h (j:=n) (u:=.int .i64 (sortN x0)) (by simp[ints,sorts,hx0]);have c1:=q1g h (j:=n+1) (u:=.int .i64 (sortN x1)) (by simp[ints,sorts,hx1]);have hr:lastTwo q b=decide (x0=b∧x1=b):=by
   unfold lastTwo;by_cases hx:x0=b∧x1=b
   ·rw[q84 hq (by rw[hx0,hx.1]) (by rw[hx1,hx.2]),decide_eq_true hx];rfl
   ·rw[z1p hq (fun h1=>hx ⟨by have:=h1.1;rw[hx0] at this;injection this,by have:=h1.2;rw[hx1] at this;injection this⟩),decide_eq_false hx];rfl
  have hnb:n≤1000000:=by omega
  rw[hq,hr];clear h hx0 hx1 e0 e1 hs hl hq hr;cases b<;>cases x0<;>cases x1
  all_goals
   unfold sortN at c0 c1 ⊢;go_enter Tryz.func152,Tryz.ntmps152;go_wp2;go_ret;exact⟨rfl,rfl⟩
structure RMadeAt (w:World) (rule:List Int) (v:Value) (k:Nat) (q:List Bool) (W:World):Prop where
 own:NPile w.heap.size W v q
 below:Below w.heap.size w W
 go:Rl.pileOf [] rule=Rl.pileOf q (rule.drop k)
 len:q.length≤k
def soleN:List Bool→Int
 | [b]=>sortN b
 | _=>0
def madeN(rule:List Int):Int:=if rule.length≤40 then(match Rl.pileOf [] rule with|some q=>soleN q|none=>0) else 0
theorem q2y{rule:List Int}(h:Rl.pileOf [] rule=none):madeN rule=0:=by unfold madeN;rw[h];split<;>rfl
theorem z2n(rule:List Int):(Rl.right rule false=decide (madeN rule=1))∧(Rl.right rule true=decide (madeN rule=2))∧(Rl.made rule=decide (madeN rule≠0)):=by
 have key:Rl.right rule false=decide (madeN rule=1)∧Rl.right rule true=decide (madeN rule=2)∧(madeN rule=0∨madeN rule=1∨madeN rule=2):=by
  by_cases h40:rule.length≤40
  ·cases hp:Rl.pileOf [] rule with
   | none=>rw[q5c hp,q5c hp,q2y hp];exact⟨rfl,rfl,.inl rfl⟩
   | some q =>
    rw[q5d h40 hp,q5d h40 hp];unfold madeN;rw[if_pos h40,hp]
    match q with
    | []=>exact⟨rfl,rfl,.inl rfl⟩
    | [b]=>cases b<;>exact⟨rfl,rfl,by decide⟩
    | x :: y :: r=>exact⟨by simp[soleN],by simp[soleN],.inl rfl⟩
  ·rw[q5b (by omega),q5b (by omega)];unfold madeN;rw[if_neg h40];exact⟨rfl,rfl,.inl rfl⟩
 obtain⟨k1,k2,k3⟩:=key;refine⟨k1,k2,?_⟩;unfold Rl.made;rw[k1,k2];rcases k3 with e|e|e<;>rw[e]<;>rfl
def TellsN(w:World)(n:Int)(e:Ending)(w':World):Prop:=e=.returned (.int .i64 n)∧Below w.heap.size w w'
theorem q57{base:Nat}{W:World}{v:Value}{q:List Bool}{b:Bool}(h:NPile base W v q)(ht:lastTwo q b=true):∃ g cap m,v=.slice (some ⟨g,0,none⟩) (m+2) cap∧q.length=m+2∧m+2≤cap∧q.take (m+1)=q.take m++[b]:=by
 have h2:¬q.length<2:=fun h2=>by unfold lastTwo at ht;rw[q83 h2] at ht;cases ht
 obtain⟨m,hm⟩:∃ m,q.length=m+2:=⟨q.length-2,by omega⟩;have hx:q[m]? = some b:=Classical.byContradiction fun hx=>by unfold lastTwo at ht;rw[z1p hm (fun h1=>hx h1.1)] at ht;cases ht
 obtain⟨g,cap,rfl,-⟩:=q1y h (by omega);have hc:=(ownT_row h).2;exact⟨g,cap,m,by rw[hm],hm,by omega,by rw[List.take_add_one,hx];rfl⟩
theorem z69{A:Option Addr}{rule:List Int}(c:Nat)(w:World)(h:Row w w.heap.size A (ints rule))(hl:rule.length≤100000):Calls Tryz.prog 132 #[.slice A rule.length c] w (TellsN w (madeN rule)):=by
 obtain⟨i0,hi,hz0,hz1,hz2⟩:=info_parts Tryz.infoInt;have H:=η h;have hstart:RMadeAt w rule (.slice (some ⟨w.heap.size,0,none⟩) 0 0) 0 [] (w.alloc (.cells #[] 3)):=⟨World.ownsRow_made w #[] 0 (Nat.le_refl _) (by decide) rfl,(Below.refl _ w).alloc (Nat.le_refl _) _,rfl,Nat.le_refl _⟩;have HS:=η hstart;clear h hstart;go_enter Tryz.func132,Tryz.ntmps132;go_wp2;go_loopw [3,10] (fun v i wr=>∃(k:Nat) (q:List Bool),k≤rule.length∧i=.int .i64 k∧Hid (RMadeAt w rule v k q wr)) (fun _ i _=>rule.length-(intOf i).toNat);case atStart=>exact⟨0,[],Nat.zero_le _,rfl,HS⟩
 case round =>
  obtain⟨k,q,hk,rfl,HK⟩:=hrel;by_cases hlt:k<rule.length
  ·obtain⟨ad,hA,hb,c0⟩:=q0y (H.out.below HK.out.below) hlt;rw[hA];have hql:q.length≤1000000:=by have:=HK.out.len;omega
   have hsz:=HK.out.below.size;have hown:wr.ownsRow w.heap.size 3 1 _ q.length (ints (sorts q)):=HK.out.own;obtain⟨A1,cap1,rfl⟩:=q0b hown;have hgo:=HK.out.go;have hon:=fun r hs=>hgo.trans (q8y (r:=r) hlt hs)
   have hstop:=fun hs=>hgo.trans (q6a hlt hs)
   clear hA hgo;generalize rule[k]=x at *;by_cases x1:x=1∨x=2
   ·have HE:=η (hon (q++[false]) (by unfold Rl.step;rw[if_pos x1]));clear hon hstop;rcases x1 with rfl|rfl;all_goals
     go_wp2_with (at_builtin;refine wpList_append_own _ rfl _ _ 53 rfl w.heap.size 3 i0 (.int .i64 0) 1 8 Tryz.underlying53 hi hz0 hz1 hz2 rfl (by decide) _ _ _ rfl (hown.alloc _) ⟨wr.heap.size,0,none⟩ 1 1 [.int .i64 (1)] rfl rfl (q04 _ _ _) (by simp[Value.oneCell']) (by unfold maxLen;omega) (by omega) (by simp;omega) ?_);intro v' w' hown' hgrow _
     have hnx:RMadeAt w rule v' (k+1) (q++[false]) w':=⟨by
      unfold NPile;rw[q5k,q36,List.length_append]
      exact hown',(HK.out.below.alloc hsz _).grown hgrow (by simp;omega) (fun k he=>(hown.lt k he).1),HE.out,by have:=HK.out.len;simp;omega⟩
     have HNX:=η hnx;clear hown hown' hgrow hnx;go_wp2;go_roundw;case rel=>exact⟨k+1,_,by omega,by go_num,HNX⟩
     case measure=>simp[intOf];omega
   ·have n1:(x==1)=false:=by rw[beq_eq_false_iff_ne];omega
    have n2:(x==2)=false:=by rw[beq_eq_false_iff_ne];omega
    by_cases x6:6≤x∧x≤11
    ·have HE:=η (hon (q++[true]) (by unfold Rl.step;rw[if_neg x1,if_pos x6]));obtain⟨x6,x11⟩:=x6;clear hon hstop x1;go_wp2_with (at_builtin;refine wpList_append_own _ rfl _ _ 53 rfl w.heap.size 3 i0 (.int .i64 0) 1 8 Tryz.underlying53 hi hz0 hz1 hz2 rfl (by decide) _ _ _ rfl (hown.alloc _) ⟨wr.heap.size,0,none⟩ 1 1 [.int .i64 (2)] rfl rfl (q04 _ _ _) (by simp[Value.oneCell']) (by unfold maxLen;omega) (by omega) (by simp;omega) ?_);intro v' w' hown' hgrow _
     have hnx:RMadeAt w rule v' (k+1) (q++[true]) w':=⟨by
      unfold NPile;rw[q5k,q36,List.length_append]
      exact hown',(HK.out.below.alloc hsz _).grown hgrow (by simp;omega) (fun k he=>(hown.lt k he).1),HE.out,by have:=HK.out.len;simp;omega⟩
     have HNX:=η hnx;clear hown hown' hgrow hnx;go_wp2;go_roundw;case rel=>exact⟨k+1,_,by omega,by go_num,HNX⟩
     case measure=>simp[intOf];omega
    ·by_cases x3:x=3∨x=4
     ·have hs:Rl.step q x=Rl.two q false false:=by unfold Rl.step;rw[if_neg x1,if_neg x6,if_pos x3]
      rw[z1n] at hs;have hc:=q7t false wr HK.out.own hql;cases ht:lastTwo q false
      ·rw[ht] at hs hc;have HE:=η (hstop hs);have HC:=η hc;clear hon hstop hs hc ht x1 x6 hown n1 n2;rcases x3 with rfl|rfl;all_goals
        go_wp2_with (fail);refine HC.out.mono ?_;rintro e w1 ⟨rfl,rfl⟩;go_wp2;go_ret;exact⟨reti (q2y HE.out).symm,HK.out.below⟩
      ·rw[ht] at hs hc;obtain⟨g,cap,m,hv,hqm,hcap,htk⟩:=q57 HK.out.own ht;have HE:=η (hon _ hs);have HC:=η hc;injection hv with e1 e2 e3;subst e1 e3;have hown2:=q29 (k:=m+1) (by rw[hqm] at hown;exact hown) (by omega);rw[q5l,htk] at hown2
       have hnx:RMadeAt w rule (.slice (some ⟨g,0,none⟩) (m+1) cap1) (k+1) (q.take (q.length-2)++[false]) wr:=⟨by
        unfold NPile;rw[hqm,Nat.add_sub_cancel,List.length_append,List.length_take,hqm,show min m (m+2)=m by omega]
        exact hown2,HK.out.below,HE.out,by have:=HK.out.len;rw[List.length_append,List.length_take];simp;omega⟩
       have HNX:=η hnx;have hmk:m≤1000000:=by omega
       rw[hqm];rw[hqm] at HC;clear hon hstop hs hc ht x1 x6 hown n1 n2 hown2 hnx htk e2 hqm;rcases x3 with rfl|rfl;all_goals
        go_wp2_with (fail);refine HC.out.mono ?_;rintro e w1 ⟨rfl,rfl⟩;go_wp2;go_roundw;case rel=>exact⟨k+1,_,by omega,by go_num,HNX⟩
        case measure=>simp[intOf];omega
     ·have n3:(x==3)=false:=by rw[beq_eq_false_iff_ne];omega
      have n4:(x==4)=false:=by rw[beq_eq_false_iff_ne];omega
      by_cases x5:x=5
      ·have hs:Rl.step q x=Rl.two q true false:=by unfold Rl.step;rw[if_neg x1,if_neg x6,if_neg x3,if_pos x5]
       rw[z1n] at hs;have hc:=q7t true wr HK.out.own hql;cases ht:lastTwo q true
       ·rw[ht] at hs hc;have HE:=η (hstop hs);have HC:=η hc;clear hon hstop hs hc ht x1 x3 x6 hown n1 n2 n3 n4;subst x5;go_wp2_with (fail);refine HC.out.mono ?_;rintro e w1 ⟨rfl,rfl⟩;go_wp2;go_ret;exact⟨reti (q2y HE.out).symm,HK.out.below⟩
       ·rw[ht] at hs hc;obtain⟨g,cap,m,hv,hqm,hcap,htk⟩:=q57 HK.out.own ht;have HE:=η (hon _ hs);have HC:=η hc;injection hv with e1 e2 e3;subst e1 e3;have hown2:=q29 (k:=m) (by rw[hqm] at hown;exact hown) (by omega);rw[q5l] at hown2;have hmk:m≤1000000:=by omega
        have HLM:Hid ((q.take (q.length-2)).length=m):=by unfold Hid;rw[List.length_take];omega
        have HQ2:Hid (q.take (q.length-2)=q.take m):=by unfold Hid;rw[hqm];rfl
        have HQM:=η hqm;rw[hqm];rw[hqm] at HC;clear hon hstop hs hc ht x1 x3 x6 hown n1 n2 n3 n4 htk e2 hqm;subst x5;have hown:=hown2;clear hown2;go_wp2_with (fail);refine HC.out.mono ?_;rintro e w1 ⟨rfl,rfl⟩;go_wp2_with (at_builtin;refine wpList_append_own _ rfl _ _ 53 rfl w.heap.size 3 i0 (.int .i64 0) 1 8 Tryz.underlying53 hi hz0 hz1 hz2 rfl (by decide) _ _ _ rfl (hown.alloc _) ⟨wr.heap.size,0,none⟩ 1 1 [.int .i64 (1)] rfl rfl (q04 _ _ _) (by simp[Value.oneCell']) (by unfold maxLen;omega) (by omega) (by simp;omega) ?_);intro v' w' hown' hgrow _
        have hnx:RMadeAt w rule v' (k+1) (q.take (q.length-2)++[false]) w':=⟨by
         unfold NPile;rw[q5k,q36,List.length_append,HLM.out,HQ2.out]
         exact hown',(HK.out.below.alloc hsz _).grown hgrow (by simp;omega) (fun k he=>(hown.lt k he).1),HE.out,by have:=HK.out.len;rw[List.length_append,HLM.out];have:=HQM.out;simp;omega⟩
        have HNX:=η hnx;clear hown hown' hgrow hnx;go_wp2;go_roundw;case rel=>exact⟨k+1,_,by omega,by go_num,HNX⟩
        case measure=>simp[intOf];omega
      ·have n5:(x==5)=false:=by rw[beq_eq_false_iff_ne];exact x5
       by_cases x12:x=12∨x=13
       ·have hs:Rl.step q x=Rl.two q true true:=by unfold Rl.step;rw[if_neg x1,if_neg x6,if_neg x3,if_neg x5,if_pos x12]
        rw[z1n] at hs;have hc:=q7t true wr HK.out.own hql;cases ht:lastTwo q true
        ·rw[ht] at hs hc;have HE:=η (hstop hs);have HC:=η hc;clear hon hstop hs hc ht x1 x3 x5 x6 hown n1 n2 n3 n4 n5;rcases x12 with rfl|rfl;all_goals
          go_wp2_with (fail);refine HC.out.mono ?_;rintro e w1 ⟨rfl,rfl⟩;go_wp2;go_ret;exact⟨reti (q2y HE.out).symm,HK.out.below⟩
        ·rw[ht] at hs hc;obtain⟨g,cap,m,hv,hqm,hcap,htk⟩:=q57 HK.out.own ht;have HE:=η (hon _ hs);have HC:=η hc;injection hv with e1 e2 e3;subst e1 e3;have hown2:=q29 (k:=m+1) (by rw[hqm] at hown;exact hown) (by omega);rw[q5l,htk] at hown2
         have hnx:RMadeAt w rule (.slice (some ⟨g,0,none⟩) (m+1) cap1) (k+1) (q.take (q.length-2)++[true]) wr:=⟨by
          unfold NPile;rw[hqm,Nat.add_sub_cancel,List.length_append,List.length_take,hqm,show min m (m+2)=m by omega]
          exact hown2,HK.out.below,HE.out,by have:=HK.out.len;rw[List.length_append,List.length_take];simp;omega⟩
         have HNX:=η hnx;have hmk:m≤1000000:=by omega
         rw[hqm];rw[hqm] at HC;clear hon hstop hs hc ht x1 x3 x5 x6 hown n1 n2 n3 n4 n5 hown2 hnx htk e2 hqm;rcases x12 with rfl|rfl;all_goals
          go_wp2_with (fail);refine HC.out.mono ?_;rintro e w1 ⟨rfl,rfl⟩;go_wp2;go_roundw;case rel=>exact⟨k+1,_,by omega,by go_num,HNX⟩
          case measure=>simp[intOf];omega
       ·have n12:(x==12)=false:=by rw[beq_eq_false_iff_ne];omega
        have n13:(x==13)=false:=by rw[beq_eq_false_iff_ne];omega
        have HE:=η (hstop (by unfold Rl.step;rw[if_neg x1,if_neg x6,if_neg x3,if_neg x5,if_neg x12]));have x6':x<6∨11<x:=by omega
        clear hon hstop x1 x3 x5 x6 x12 hown;rcases x6' with x6|x6;all_goals
         go_wp2;go_ret;exact⟨reti (q2y HE.out).symm,HK.out.below⟩
  ·obtain rfl:k=rule.length:=by omega
   have hgo:=HK.out.go;rw[List.drop_length] at hgo;have hown:wr.ownsRow w.heap.size 3 1 _ q.length (ints (sorts q)):=HK.out.own;have HB:=η HK.out.below;have hmd:madeN rule=if rule.length≤40 then soleN q else 0:=by unfold madeN;rw[hgo];rfl
   have HM:=η hmd;clear hgo hmd
   match q,HK,HM,hown with
   | [],HK,HM,hown =>
    obtain⟨A1,cap,rfl⟩:=q0b hown;clear hown HK;go_wp2;go_ret;exact⟨reti (by rw[HM.out];split<;>rfl),HB.out⟩
   | [x],HK,HM,hown =>
    obtain⟨g,cap,rfl,-⟩:=q1y hown (by simp);have c0:=q1g hown (j:=0) (u:=.int .i64 (sortN x)) rfl;clear hown HK;by_cases h40:(40:Int)<(rule.length:Int)
    ·go_wp2;go_ret;exact⟨reti (by rw[HM.out,if_neg (by omega)]),HB.out⟩
    ·have hp40:((40:Int)<(rule.length:Int))=False:=eq_false h40;have HL:Hid (rule.length≤40):=by unfold Hid;omega
     clear h40;go_wp2;go_ret;exact⟨reti (by rw[HM.out,if_pos HL.out];rfl),HB.out⟩
   | x :: y :: r,HK,HM,hown =>
    obtain⟨A1,cap,rfl⟩:=q0b hown;have hne:(((x :: y :: r).length:Int) != 1)=true:=by rw[bne_iff_ne];simp;omega
    generalize (x :: y :: r).length=n at *;clear hown HK;go_wp2;go_ret;exact⟨reti (by rw[HM.out];split<;>rfl),HB.out⟩
theorem q5a{A:Option Addr}{rule:List Int}(c:Nat)(lab:Bool)(w:World)(h:Row w w.heap.size A (ints rule))(hl:rule.length≤100000):Calls Tryz.prog 91 #[.slice A rule.length c,.bool lab] w (Tells w (Rl.right rule lab)):=by
 have HC:=η (z69 c w h hl);obtain⟨e1,e2,-⟩:=z2n rule;cases lab
 ·rw[e1];clear h e1 e2;go_enter Tryz.func91,Tryz.ntmps91;go_wp2_with (fail);refine HC.out.mono ?_;rintro e w1 ⟨rfl,hb1⟩;have HB1:=η hb1;clear hb1;generalize madeN rule=x at *;go_wp2;go_ret;exact⟨retb (by first|rfl|simp[beq_eq_decide]),HB1.out⟩
 ·rw[e2];clear h e1 e2;go_enter Tryz.func91,Tryz.ntmps91;go_wp2_with (fail);refine HC.out.mono ?_;rintro e w1 ⟨rfl,hb1⟩;have HB1:=η hb1;clear hb1;generalize madeN rule=x at *;go_wp2;go_ret;exact⟨retb (by first|rfl|simp[beq_eq_decide]),HB1.out⟩
theorem q9t{rule:List Int}{k:Nat}(hk:k<rule.length)(n:Int):n ∈ rule.take (k+1)↔n ∈ rule.take k∨n=rule[k]:=by
 rw[q4g hk,List.mem_append,List.mem_singleton]
theorem j01{A:Option Addr}{rule:List Int}(c j:Nat)(w:World)(h:Row w w.heap.size A (ints rule))(hl:rule.length≤100000)(hj:j≤100):Calls Tryz.prog 134 #[.slice A rule.length c,.int .i64 j] w fun e w'=>e=.returned (.bool (decide ((8+(j:Int)) ∈ rule)))∧w=w':=by
 have H:=η h;clear h;go_enter Tryz.func134,Tryz.ntmps134;go_wp2;go_loop [9] (fun i=>∃ k:Nat,k≤rule.length∧i=.int .i64 k∧Hid (¬(8+(j:Int)) ∈ rule.take k)) (fun i=>rule.length-(intOf i).toNat);case atStart=>exact⟨0,Nat.zero_le _,rfl,by unfold Hid;simp⟩
 case round =>
  obtain⟨k,hk,rfl,HK⟩:=hrel;by_cases hlt:k<rule.length
  ·obtain⟨ad,hA,hb,c0⟩:=q0y H.out hlt;have HM:=η (q9t hlt (8+(j:Int)));have hin:rule[k] ∈ rule:=List.getElem_mem hlt;have HI:=η hin;rw[hA];clear hA hin;generalize rule[k]=x at *;by_cases hx:x=8+(j:Int)
   ·have HX:=η hx;subst hx;go_wp2;go_ret;exact⟨retb (by symm;rw[decide_eq_true_eq];exact HI.out),rfl⟩
   ·have hx0:(x==8+(j:Int))=false:=by rw[beq_eq_false_iff_ne];exact hx
    have HX:=η hx;clear hx;go_wp2;go_round;case rel=>exact⟨k+1,by omega,by go_num,by unfold Hid;rw[HM.out];rintro(h1|h1);exact HK.out h1;exact HX.out h1.symm⟩
    case measure=>simp[intOf];omega
  ·obtain rfl:k=rule.length:=by omega
   have hno:=HK.out;rw[List.take_length] at hno;have HNO:=η hno;clear hno;go_wp2;go_ret;exact⟨retb (by symm;rw[decide_eq_false_iff_not];exact HNO.out),rfl⟩
end Go.Proofs.YtjobifclmcdjcaaGreatDoor
