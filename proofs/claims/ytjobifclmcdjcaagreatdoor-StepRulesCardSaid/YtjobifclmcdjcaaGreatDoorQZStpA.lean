import Derived.Laws.IdiomCopy
import Derived.Lib.SlBuf
import Derived.Lib.SliceRun
import Derived.WalkSmall
import Derived.StillTail
import Derived.Handy
import Derived.Test.YtjobifclmcdjcaaGreatDoorQZCodE
import Derived.Test.YtjobifclmcdjcaaGreatDoorQZNotG
import Derived.Test.YtjobifclmcdjcaaGreatDoorQZCodP
import Derived.Test.YtjobifclmcdjcaaGreatDoorQZShoA
set_option maxHeartbeats 64000000
set_option maxRecDepth 100000
namespace Go.Proofs.YtjobifclmcdjcaaGreatDoor
open Go.RowKit Go.Shelf
attribute [local go_sem] Oper.semAt_some
theorem q1z(w:World)(e:TypeId)(sz:Nat):(w.alloc (.cells #[] e)).ownsRow w.heap.size e sz (.slice (some ⟨w.heap.size,0,none⟩) 0 0) 0 [] :=
 ⟨by simp,.inr ⟨w.heap.size,0,#[],rfl,Nat.le_refl _,World.alloc_heap_new w _,Nat.le_refl _,by unfold maxLen;omega,by simp,by simp⟩⟩
theorem q1x{α:Type}{f:α→List Value}(hf:∀ x,∀ u ∈ f x,u.oneCell'=true)(l:List α):∀ u ∈ fcells f l,u.oneCell'=true:=by
 intro u hu;unfold fcells at hu;obtain⟨e,_,he⟩:=List.mem_flatMap.1 hu;exact hf e u he
theorem j02(x:Cd.In):∀ u ∈ ivs x,u.oneCell'=true:=by intro u hu;simp[ivs] at hu;rcases hu with rfl|rfl|rfl<;>rfl
theorem q8m(x:St.Atom):∀ u ∈ avs x,u.oneCell'=true:=by intro u hu;simp[avs] at hu;rcases hu with rfl|rfl<;>rfl
theorem q6v(x:St.Slot):∀ u ∈ svs x,u.oneCell'=true:=by intro u hu;simp[svs] at hu;rcases hu with rfl|rfl|rfl<;>rfl
theorem z2a{A:Option Addr}(c:Nat)(l:List Cd.In)(w:World)(h:Row w w.heap.size A (fcells ivs l))(hl:l.length≤1000000) :
  Calls Tryz.prog 55 #[.slice A l.length c] w fun e w'=>∃ v,e=.returned v∧w'.ownsRow w.heap.size 57 3 v l.length (fcells ivs l)∧Below w.heap.size w w':=by
 cases A with
 | none =>
  have hl0:l=[]:=by
   match l,h with
   | [],_=>rfl
   | x :: r,h =>
    obtain⟨ad,e,_⟩:=h (by simp[fcells,ivs]);cases e
  subst hl0;have hn0:=fun(W:World)=>Lib.run_eql_slice_nil (P:=Tryz.prog) W 31 57 none 0 c 0 0 Tryz.underlying31
  show Calls Tryz.prog 55 #[.slice none 0 c] w _;clear h hl;go_enter Tryz.func55,Tryz.ntmps55;go_wp2;go_ret;exact⟨_,rfl,World.ownsRow_nil _ _ _ _,Below.refl _ _⟩
 | some ad =>
  have hnil:=fun(W:World)=>Lib.run_eql_slice_nil (P:=Tryz.prog) W 31 57 (some ad) l.length c 0 0 Tryz.underlying31
  obtain⟨i0,hi,hz0,hz1,hz2⟩:=info_parts Tryz.infoInstr;have H:=η h;clear h;go_enter Tryz.func55,Tryz.ntmps55;go_wp2_with (at_builtin;refine wpList_append_own _ rfl _ _ 31 rfl w.heap.size 57 i0 (.agg #[.int .i64 0,.int .i64 0,.int .i64 0]) 3 24 Tryz.underlying31 hi hz0 hz1 hz2 rfl (by decide) (.slice (some ⟨w.heap.size,0,none⟩) 0 0) 0 [] rfl ?c0 ad l.length c (fcells ivs l) rfl ?c1 ?c2 ?c3 ?c4 ?c5 ?c6 ?_);case c0=>exact q1z w 57 3
  case c1=>exact q01 z3u l
  case c2 =>
   intro j u hu;obtain⟨ad',e,hb,hc⟩:=(Row.below H.out ((Below.refl _ w).alloc (Nat.le_refl _) _)) (by rintro e;rw[e] at hu;simp at hu);injection e with e;subst e;exact hc j u hu
  case c3=>exact q1x j02 l
  case c4=>unfold maxLen;omega
  case c5=>omega
  case c6=>simp
  intro v' w' hown hg _;have HO:=η hown;have HG:=η hg;clear hown hg;go_wp2;go_ret;exact⟨v',rfl,by simpa using HO.out,((Below.refl _ w).alloc (Nat.le_refl _) _).grown HG.out (by simp) (fun k he=>by cases he;exact Nat.le_refl _)⟩
theorem q60{A:Option Addr}(c:Nat)(l:List St.Atom)(w:World)(h:Row w w.heap.size A (fcells avs l))(hl:l.length≤1000000) :
  Calls Tryz.prog 56 #[.slice A l.length c] w fun e w'=>∃ v,e=.returned v∧w'.ownsRow w.heap.size 30 2 v l.length (fcells avs l)∧Below w.heap.size w w':=by
 cases A with
 | none =>
  have hl0:l=[]:=by
   match l,h with
   | [],_=>rfl
   | x :: r,h =>
    obtain⟨ad,e,_⟩:=h (by simp[fcells,avs]);cases e
  subst hl0;have hn0:=fun(W:World)=>Lib.run_eql_slice_nil (P:=Tryz.prog) W 32 30 none 0 c 0 0 Tryz.underlying32
  show Calls Tryz.prog 56 #[.slice none 0 c] w _;clear h hl;go_enter Tryz.func56,Tryz.ntmps56;go_wp2;go_ret;exact⟨_,rfl,World.ownsRow_nil _ _ _ _,Below.refl _ _⟩
 | some ad =>
  have hnil:=fun(W:World)=>Lib.run_eql_slice_nil (P:=Tryz.prog) W 32 30 (some ad) l.length c 0 0 Tryz.underlying32
  obtain⟨i0,hi,hz0,hz1,hz2⟩:=info_parts Tryz.infoAtom;have H:=η h;clear h;go_enter Tryz.func56,Tryz.ntmps56;go_wp2_with (at_builtin;refine wpList_append_own _ rfl _ _ 32 rfl w.heap.size 30 i0 (.agg #[.int .i64 0,.int .i64 0]) 2 16 Tryz.underlying32 hi hz0 hz1 hz2 rfl (by decide) (.slice (some ⟨w.heap.size,0,none⟩) 0 0) 0 [] rfl ?c0 ad l.length c (fcells avs l) rfl ?c1 ?c2 ?c3 ?c4 ?c5 ?c6 ?_);case c0=>exact q1z w 30 2
  case c1=>exact q01 q2h l
  case c2 =>
   intro j u hu;obtain⟨ad',e,hb,hc⟩:=(Row.below H.out ((Below.refl _ w).alloc (Nat.le_refl _) _)) (by rintro e;rw[e] at hu;simp at hu);injection e with e;subst e;exact hc j u hu
  case c3=>exact q1x q8m l
  case c4=>unfold maxLen;omega
  case c5=>omega
  case c6=>simp
  intro v' w' hown hg _;have HO:=η hown;have HG:=η hg;clear hown hg;go_wp2;go_ret;exact⟨v',rfl,by simpa using HO.out,((Below.refl _ w).alloc (Nat.le_refl _) _).grown HG.out (by simp) (fun k he=>by cases he;exact Nat.le_refl _)⟩
theorem q61{A:Option Addr}(c:Nat)(l:List St.Slot)(w:World)(h:Row w w.heap.size A (fcells svs l))(hl:l.length≤1000000) :
  Calls Tryz.prog 57 #[.slice A l.length c] w fun e w'=>∃ v,e=.returned v∧w'.ownsRow w.heap.size 78 3 v l.length (fcells svs l)∧Below w.heap.size w w':=by
 cases A with
 | none =>
  have hl0:l=[]:=by
   match l,h with
   | [],_=>rfl
   | x :: r,h =>
    obtain⟨ad,e,_⟩:=h (by simp[fcells,svs]);cases e
  subst hl0;have hn0:=fun(W:World)=>Lib.run_eql_slice_nil (P:=Tryz.prog) W 33 78 none 0 c 0 0 Tryz.underlying33
  show Calls Tryz.prog 57 #[.slice none 0 c] w _;clear h hl;go_enter Tryz.func57,Tryz.ntmps57;go_wp2;go_ret;exact⟨_,rfl,World.ownsRow_nil _ _ _ _,Below.refl _ _⟩
 | some ad =>
  have hnil:=fun(W:World)=>Lib.run_eql_slice_nil (P:=Tryz.prog) W 33 78 (some ad) l.length c 0 0 Tryz.underlying33
  obtain⟨i0,hi,hz0,hz1,hz2⟩:=info_parts Tryz.infoSlot;have H:=η h;clear h;go_enter Tryz.func57,Tryz.ntmps57;go_wp2_with (at_builtin;refine wpList_append_own _ rfl _ _ 33 rfl w.heap.size 78 i0 (.agg #[.bool false,.int .i64 0,.int .i64 0]) 3 24 Tryz.underlying33 hi hz0 hz1 hz2 rfl (by decide) (.slice (some ⟨w.heap.size,0,none⟩) 0 0) 0 [] rfl ?c0 ad l.length c (fcells svs l) rfl ?c1 ?c2 ?c3 ?c4 ?c5 ?c6 ?_);case c0=>exact q1z w 78 3
  case c1=>exact q01 q07 l
  case c2 =>
   intro j u hu;obtain⟨ad',e,hb,hc⟩:=(Row.below H.out ((Below.refl _ w).alloc (Nat.le_refl _) _)) (by rintro e;rw[e] at hu;simp at hu);injection e with e;subst e;exact hc j u hu
  case c3=>exact q1x q6v l
  case c4=>unfold maxLen;omega
  case c5=>omega
  case c6=>simp
  intro v' w' hown hg _;have HO:=η hown;have HG:=η hg;clear hown hg;go_wp2;go_ret;exact⟨v',rfl,by simpa using HO.out,((Below.refl _ w).alloc (Nat.le_refl _) _).grown HG.out (by simp) (fun k he=>by cases he;exact Nat.le_refl _)⟩
def cannot:ByteArray:=⟨#[105,116,32,99,97,110,39,116,32,98,101,32,100,111,110,101]⟩
def cannotP:PanicEntry:={ v:=.iface 9 (.string cannot),recovered:=false }
theorem q18(w:World):Calls Tryz.prog 84 #[.bool true] w fun e w'=>e=.returned (.tuple #[])∧w'=w:=by
 go_enter Tryz.func84,Tryz.ntmps84;go_wp2;go_end0;exact⟨rfl,rfl⟩
theorem q2j(w:World):Calls Tryz.prog 84 #[.bool false] w fun e w'=>e=.panicked [cannotP]∧w'=w:=by
 go_enter Tryz.func84,Tryz.ntmps84;go_wp2;exact⟨rfl,rfl,rfl⟩
structure MV where
 cA:Option Addr
 cc:Nat
 mA:Option Addr
 mc:Nat
 sA:Option Addr
 sc:Nat
 oA:Option Addr
 oc:Nat
 gA:Option Addr
 gc:Nat
structure MB where
 B:Nat
 g:Nat
 N:Option Addr
 U:Option Addr
 c1:Nat
 c2:Nat
 names:List ByteArray
 up:List Nat
def mcells(q:MB)(m:Sp.M)(x:MV):Array Value :=
 #[.slice q.N q.names.length q.c1,.slice q.U q.up.length q.c2,.int .i64 m.st.pc.v,.int .i64 m.st.pc.l,.slice x.cA m.st.code.length x.cc,.slice x.mA m.st.mem.length x.mc,.slice x.sA m.st.stack.length x.sc,.slice x.oA m.st.out.length x.oc,
  .int .i64 m.ins.op,.int .i64 m.ins.n,.int .i64 m.ins.l,.bool m.a.ret,.int .i64 m.a.v,.int .i64 m.a.l,.bool m.b.ret,.int .i64 m.b.v,.int .i64 m.b.l,.slice x.gA m.args.length x.gc,.bool m.back.ret,.int .i64 m.back.v,.int .i64 m.back.l,
  .int .i64 m.one,.int .i64 m.two,.int .i64 m.three,.int .i64 m.res,.int .i64 m.next]
def Apart(v u:Value):Prop:=v.ownBlock=none∨v.ownBlock≠u.ownBlock
theorem Apart.symm{v u:Value}(h:Apart v u):Apart u v:=by
 unfold Apart at *;rcases h with h|h
 ·rw[h];cases hu:u.ownBlock with
  | none=>exact .inl rfl
  | some k=>exact .inr (by simp)
 ·exact .inr fun e=>h e.symm
structure Mach (q:MB) (m:Sp.M) (x:MV) (W:World):Prop where
 blk:Blk W q.g 103 (mcells q m x)
 code:W.ownsRow q.B 57 3 (.slice x.cA m.st.code.length x.cc) m.st.code.length (fcells ivs m.st.code)
 mem:W.ownsRow q.B 30 2 (.slice x.mA m.st.mem.length x.mc) m.st.mem.length (fcells avs m.st.mem)
 stack:W.ownsRow q.B 78 3 (.slice x.sA m.st.stack.length x.sc) m.st.stack.length (fcells svs m.st.stack)
 out:W.ownsRow q.B 30 2 (.slice x.oA m.st.out.length x.oc) m.st.out.length (fcells avs m.st.out)
 args:W.ownsRow q.B 78 3 (.slice x.gA m.args.length x.gc) m.args.length (fcells svs m.args)
 mo:Apart (.slice x.mA m.st.mem.length x.mc) (.slice x.oA m.st.out.length x.oc)
 sg:Apart (.slice x.sA m.st.stack.length x.sc) (.slice x.gA m.args.length x.gc)
 lat:IsLat W q.B (.agg #[.slice q.N q.names.length q.c1,.slice q.U q.up.length q.c2]) q.names q.up
 base:q.B≤q.g
theorem q0g{W:World}{g base sz n:Nat}{t e:TypeId}{cs:Array Value}{v:Value}{xs:List Value}(hb:Blk W g t cs)(h:W.ownsRow base e sz v n xs)(hte:t≠e):v.ownBlock≠some g:=by
 rcases h.2 with⟨rfl,_⟩|⟨g',cap,cur,rfl,_,hh,_⟩
 ·intro e;cases e
 ·intro he;have:g'=g:=by simpa [Value.ownBlock] using he
  subst this;unfold Blk at hb;rw[hb] at hh;injection hh with hh;injection hh with h1 h2 h3;exact hte h2
theorem q1m{W:World}{base sz n base' sz' n':Nat}{e e':TypeId}{v v':Value}{xs xs':List Value}(h:W.ownsRow base e sz v n xs)(h':W.ownsRow base' e' sz' v' n' xs')(hte:e≠e'):Apart v v':=by
 rcases h.2 with⟨rfl,_⟩|⟨g,cap,cur,rfl,_,hh,_⟩
 ·exact .inl rfl
 ·rcases h'.2 with⟨rfl,_⟩|⟨g',cap',cur',rfl,_,hh',_⟩
  ·exact .inr (by simp[Value.ownBlock])
  ·refine .inr fun he=>?_
   have:g=g':=by simpa [Value.ownBlock] using he
   subst this;rw[hh] at hh';injection hh' with hh';injection hh' with h1 h2 h3;exact hte h2
section
variable {W w':World} {base sz n:Nat} {e:TypeId} {v:Value} {xs:List Value}
theorem q0j(h:W.ownsRow base e sz v n xs){p:Addr}(hp:v.ownBlock≠some p.block)(u:Value):(W.setCell p u).ownsRow base e sz v n xs:=ownsRow_setCell_other h hp u
theorem q0t(h:W.ownsRow base e sz v n xs)(hb:Below W.heap.size W w'):w'.ownsRow base e sz v n xs:=q1l h hb
theorem z60{ad:Addr}{c:Nat}(h:W.ownsRow base e sz (.slice (some ad) n c) n xs){k:Nat}(hk:k≤n):W.ownsRow base e sz (.slice (some ad) k c) k (xs.take (k*sz)):=by
 obtain⟨h1,h2⟩:=h;refine⟨?_,?_⟩
 ·rw[List.length_take,h1];exact Nat.min_eq_left (Nat.mul_le_mul_right sz hk)
 ·rcases h2 with⟨he,_⟩|⟨g,cap,cur,he,hb,hh,hkc,hcm,hcs,ht⟩
  ·cases he
  ·injection he with e1 e2 e3;injection e1 with e1;subst e1 e3;refine .inr ⟨g,c,cur,rfl,hb,hh,by omega,hcm,hcs,?_⟩;rw[←ht,List.take_take,Nat.min_eq_left (Nat.mul_le_mul_right sz hk)]
end
theorem q1r{α:Type}{f:α→List Value}{n:Nat}(hf:∀ x,(f x).length=n):∀(k:Nat) (l:List α),(fcells f l).take (k*n)=fcells f (l.take k)
 | 0,l=>by simp[fcells]
 | k+1,[]=>by simp[fcells]
 | k+1,x :: r=>by
  have e:fcells f (x :: r)=f x++fcells f r:=rfl
  have e2:fcells f ((x :: r).take (k+1))=f x++fcells f (r.take k):=rfl
  rw[e,e2,←q1r hf k r,Nat.succ_mul,Nat.add_comm,List.take_append,hf,List.take_of_length_le (by rw[hf];omega),Nat.add_sub_cancel_left]
theorem q4i{α:Type}{f:α→List Value}{n:Nat}(hf:∀ x,(f x).length=n):∀(k:Nat) (l:List α),(fcells f l).drop (k*n)=fcells f (l.drop k)
 | 0,l=>by simp[fcells]
 | k+1,[]=>by simp[fcells]
 | k+1,x :: r=>by
  have e:fcells f (x :: r)=f x++fcells f r:=rfl
  rw[e,List.drop_succ_cons,←q4i hf k r,Nat.succ_mul,Nat.add_comm,List.drop_append,hf,List.drop_of_length_le (by rw[hf];omega),Nat.add_sub_cancel_left,List.nil_append]
section
variable {q:MB} {m:Sp.M} {x:MV} {W W':World}
theorem Mach.lt(h:Mach q m x W):q.g<W.heap.size:=h.blk.lt
theorem Mach.le(h:Mach q m x W):q.B≤W.heap.size:=Nat.le_trans h.base (Nat.le_of_lt h.lt)
theorem Mach.below(h:Mach q m x W)(hb:Below W.heap.size W W'):Mach q m x W' :=
 ⟨h.blk.below hb h.lt,q0t h.code hb,q0t h.mem hb,q0t h.stack hb,q0t h.out hb,q0t h.args hb,h.mo,h.sg,h.lat.below (hb.mono h.le),h.base⟩
theorem Mach.set_{m':Sp.M}(h:Mach q m x W)(i:Nat)(u:Value)(hc:(mcells q m x).setIfInBounds i u=mcells q m' x)(h1:m'.st.code=m.st.code)(h2:m'.st.mem=m.st.mem)(h3:m'.st.stack=m.st.stack)(h4:m'.st.out=m.st.out)(h5:m'.args=m.args) :
  Mach q m' x (W.setCell ⟨q.g,i,none⟩ u):=by
 refine⟨hc▸h.blk.set_ i u,?_,?_,?_,?_,?_,?_,?_,?_,h.base⟩
 ·rw[h1];exact q0j h.code (q0g h.blk h.code (by decide)) u
 ·rw[h2];exact q0j h.mem (q0g h.blk h.mem (by decide)) u
 ·rw[h3];exact q0j h.stack (q0g h.blk h.stack (by decide)) u
 ·rw[h4];exact q0j h.out (q0g h.blk h.out (by decide)) u
 ·rw[h5];exact q0j h.args (q0g h.blk h.args (by decide)) u
 ·rw[h2,h4];exact h.mo
 ·rw[h3,h5];exact h.sg
 ·exact h.lat.below ((Below.refl _ _).setCell (p:=⟨q.g,i,none⟩) h.base u)
end
structure Kpt (B:Nat) (w w':World):Prop where
 below:Below B w w'
 typ:∀(k:Nat) (t:TypeId) (cs:Array Value),Blk w k t cs→t≠103→t≠78→t≠30→Blk w' k t cs
section
variable {B g:Nat} {w w' w2:World}
theorem Kpt.refl(B:Nat)(w:World):Kpt B w w:=⟨Below.refl _ _,fun _ _ _ h _ _ _=>h⟩
theorem Kpt.trans(h:Kpt B w w')(h2:Kpt B w' w2):Kpt B w w2:=⟨h.below.trans h2.below,fun k t cs hb h3 h4 h5=>h2.typ k t cs (h.typ k t cs hb h3 h4 h5) h3 h4 h5⟩
theorem Kpt.of(h:Below w.heap.size w w')(hB:B≤w.heap.size):Kpt B w w':=⟨h.mono hB,fun _ _ _ hb _ _ _=>hb.below h hb.lt⟩
theorem Kpt.setM{cs:Array Value}(h:Kpt B w w')(hm:Blk w' g 103 cs)(hB:B≤g)(i:Nat)(u:Value):Kpt B w (w'.setCell ⟨g,i,none⟩ u) :=
 ⟨h.below.setCell (p:=⟨g,i,none⟩) hB u,fun k t cs hb h3 h4 h5=>by
  have h6:=h.typ k t cs hb h3 h4 h5
  refine h6.other (p:=⟨g,i,none⟩) (fun e=>?_) u
  have e:g=k:=e
  subst e
  unfold Blk at hm h6
  rw[hm] at h6
  injection h6 with h6
  injection h6 with e1 e2
  exact h3 e2.symm⟩
theorem Kpt.grown{sz n:Nat}{e:TypeId}{v:Value}{xs:List Value}(h:Kpt B w w')(hown:w'.ownsRow B e sz v n xs)(hg:w'.grownBy w2 v.ownBlock)(hB:B≤w'.heap.size)(he:e=78∨e=30):Kpt B w w2 :=
 ⟨h.below.grown hg hB (fun k he=>(hown.lt k he).1),fun k t cs hb h3 h4 h5=>by
  have h6:=h.typ k t cs hb h3 h4 h5
  exact(hg.block k h6.lt (fun e2=>q0g h6 hown (by rcases he with rfl|rfl<;>assumption) e2.symm)).trans h6⟩
theorem Kpt.row{sz n a:Nat}{e:TypeId}{v:Value}{xs:List Value}(h:Kpt B w w')(hown:w'.ownsRow B e sz v n xs)(ha:v.ownBlock=some a)(he:e=78∨e=30)(i:Nat)(u:Value):Kpt B w (w'.setCell ⟨a,i,none⟩ u) :=
 ⟨h.below.setCell (p:=⟨a,i,none⟩) (hown.lt a ha).1 u,fun k t cs hb h3 h4 h5=>by
  have h6:=h.typ k t cs hb h3 h4 h5
  exact h6.other (p:=⟨a,i,none⟩) (fun e2=>q0g h6 hown (by rcases he with rfl|rfl<;>assumption) (by rw[ha];exact congrArg some e2)) u⟩
theorem Kpt.drew(h:Kpt B w w'):Kpt B w w'.drew:=⟨h.below.drew,fun k t cs hb h3 h4 h5=>(h.typ k t cs hb h3 h4 h5).drew⟩
end
theorem q8g{P:Program}{id:Nat}{Q:Exit→Act→World→Prop}{a:Act}{w:World}{l:List Oper}(n:Nat)(hm:P.follows .mixedOrders=true)(hB:Region.lexTailB .any l.toArray n=true)(h:∀ ops,Hid (ops=l.toArray)→wpStill P ops w.drew (fun a'=>wpList P l.toArray Q (l.drop n) a' w.drew) (l.take n) a):(Code.region id l.toArray true).wp P Q a w:=wp_region_still_tail n hm hB (h _ (η rfl))
theorem z1q{P:Program}{ops:Array Oper}{w:World}{Q:Act→Prop}{a:Act}{o:Oper}{rest:List Oper}(hg:Region.wanted o (yielded ops a.tmps)=false)(ha:a.put o.dst undef=a)(h:wpStill P ops w Q rest a):wpStill P ops w Q (o :: rest) a:=by
 unfold wpStill;rw[hg,ha];exact h
section
variable {q:MB} {m:Sp.M} {x:MV}
theorem Mach.cell_at{w:World}(h:Mach q m x w)(hc:m.cellB=true):∃(k:Nat) (ad:Addr),m.a.v=(k:Int)∧k<m.st.mem.length∧x.mA=some ad∧ad.block<w.heap.size∧w.cell? (ad.add (k*2))=some (.int .i64 m.cell.v) ∧
  w.cell? ⟨(ad.add (k*2)).block,(ad.add (k*2)).off+1,none⟩=some (.int .i64 m.cell.l):=by
 obtain⟨h0,h1⟩:=of_decide_eq_true hc;obtain⟨k,hk⟩:∃ k:Nat,m.a.v=(k:Int):=⟨m.a.v.toNat,by omega⟩;have hlt:k<m.st.mem.length:=by omega
 obtain⟨ad,t,e,hb,ht,c0,c1⟩:=q1q (ownT_row h.mem).1 hlt;have hm:m.cell=t:=by
  unfold Sp.M.cell;rw[hk,List.getD_eq_getElem?_getD,Int.toNat_natCast,ht];rfl
 exact⟨k,ad,hk,hlt,e,hb,by rw[hm];exact c0,by rw[hm];exact c1⟩
theorem q7i{w:World}(h:Mach q m x w)(hc:m.cellB=true)(_hs:m.st.mem.length≤1000) :
  Calls Tryz.prog 148 #[.pointer (some ⟨q.g,0,none⟩)] w fun e w'=>e=.returned (.agg #[.int .i64 m.cell.v,.int .i64 m.cell.l])∧Below w.heap.size w w':=by
 obtain⟨k,ad,hk,hlt,hA,hb,k0,k1⟩:=h.cell_at hc;have hal:=(Below.refl w.heap.size w).alloc (Nat.le_refl _) (.cells #[.int .i64 0,.int .i64 0] 30);have hbx:=Blk.new w 30 #[.int .i64 0,.int .i64 0];have h1:=h.blk.below hal h.lt;have hb2:(ad.add (k*2)).block<w.heap.size:=by rw[q0a];exact hb
 have k0':=(hal.cell (p:=ad.add (k*2)) hb2).trans k0;have k1':=(hal.cell (p:=⟨(ad.add (k*2)).block,(ad.add (k*2)).off+1,none⟩) hb2).trans k1;obtain⟨W,hW⟩:∃ W,w.alloc (.cells #[.int .i64 0,.int .i64 0] 30)=W:=⟨_,rfl⟩;rw[hW] at hal hbx h1 k0' k1';have f4:W.cell? ⟨q.g,12,none⟩=some (.int .i64 m.a.v):=h1.cell 12;have f5:W.cell? ⟨q.g,5,none⟩=some (.slice x.mA m.st.mem.length x.mc):=h1.cell 5;rw[hk] at f4;rw[hA] at f5;have r0:=hbx.cell 0;have r1:=hbx.cell 1;have z0:=hbx.frozen 0;have z1:=hbx.frozen 1;have hge:decide ((0:Int)≤(k:Int))=true:=decide_eq_true (by omega);have hll:decide ((k:Int)<(m.st.mem.length:Int))=true:=decide_eq_true (by omega);have HM:=η (q18 W.drew);have HAL:=η hal;have HBX:=η hbx;generalize m.cell=cl at *;generalize m.st.mem.length=n at *;clear h h1 hal hbx k0 k1 hc hA hk hb;go_enter Tryz.func148,Tryz.ntmps148;go_wp2;refine q0i 20 (by kernel_rfl) (by kernel_rfl) ?_;simp only[List.take_succ_cons,List.take_zero,List.drop_succ_cons,List.drop_zero];repeat still_step
 refine wpStill_nil ?_;go_wp2_with (fail);refine HM.out.mono ?_;rintro e w2 ⟨rfl,rfl⟩;have e4:W.drew.cell? ⟨q.g,12,none⟩=some (.int .i64 (k:Int)):=f4;have e5:W.drew.cell? ⟨q.g,5,none⟩=some (.slice (some ad) n x.mc):=f5;have e6:W.drew.cell? (ad.add (k*2))=some (.int .i64 cl.v):=k0';have e7:W.drew.cell? ⟨(ad.add (k*2)).block,(ad.add (k*2)).off+1,none⟩=some (.int .i64 cl.l):=k1';go_wp2;refine q0i 12 (by kernel_rfl) (by kernel_rfl) ?_;simp only[List.take_succ_cons,List.take_zero,List.drop_succ_cons,List.drop_zero];repeat still_step
 refine wpStill_nil ?_;go_wp2;have hbf:Blk ((W.setCell ⟨w.heap.size,0,none⟩ (.int .i64 cl.v)).setCell ⟨w.heap.size,1,none⟩ (.int .i64 cl.l)).drew.drew w.heap.size 30 #[.int .i64 cl.v,.int .i64 cl.l]:=(HBX.out.set_ 0 _).set_ 1 _;have hbl:=((HAL.out.setCell (p:=⟨w.heap.size,0,none⟩) (Nat.le_refl _) (.int .i64 cl.v)).setCell (p:=⟨w.heap.size,1,none⟩) (Nat.le_refl _) (.int .i64 cl.l)).drew.drew;obtain⟨WF,hWF⟩:∃ WF,((W.setCell ⟨w.heap.size,0,none⟩ (.int .i64 cl.v)).setCell ⟨w.heap.size,1,none⟩ (.int .i64 cl.l)).drew.drew=WF:=⟨_,rfl⟩;rw[hWF] at hbf hbl ⊢;have y0:=hbf.cell 0;have y1:=hbf.cell 1;exact bodyPost_ret (v:=.agg #[.int .i64 cl.v,.int .i64 cl.l]) (by simp[results,Tryz.results148,go_sem,y0,y1]) rfl ⟨rfl,hbl⟩
theorem z3o{w:World}(h:Mach q m x w)(hc:m.cellB=false)(_hs:m.st.mem.length≤1000) :
  Calls Tryz.prog 148 #[.pointer (some ⟨q.g,0,none⟩)] w fun e w'=>e=.panicked [cannotP]∧Below w.heap.size w w':=by
 have hal:=(Below.refl w.heap.size w).alloc (Nat.le_refl _) (.cells #[.int .i64 0,.int .i64 0] 30);have h1:=h.blk.below hal h.lt;obtain⟨W,hW⟩:∃ W,w.alloc (.cells #[.int .i64 0,.int .i64 0] 30)=W:=⟨_,rfl⟩;rw[hW] at hal h1;have f4:W.cell? ⟨q.g,12,none⟩=some (.int .i64 m.a.v):=h1.cell 12;have f5:W.cell? ⟨q.g,5,none⟩=some (.slice x.mA m.st.mem.length x.mc):=h1.cell 5;have hc':=of_decide_eq_false hc;have HM:=η (q2j W.drew);have HAL:=η hal;by_cases hlo:0≤m.a.v
 ·have hll:decide (m.a.v<(m.st.mem.length:Int))=false:=decide_eq_false (by omega);have hge:decide ((0:Int)≤m.a.v)=true:=decide_eq_true hlo;generalize m.a.v=k at *;generalize m.st.mem.length=n at *;clear h h1 hal hc hc';go_enter Tryz.func148,Tryz.ntmps148;go_wp2;refine q0i 20 (by kernel_rfl) (by kernel_rfl) ?_;simp only[List.take_succ_cons,List.take_zero,List.drop_succ_cons,List.drop_zero];repeat still_step
  refine wpStill_nil ?_;go_wp2_with (fail);refine HM.out.mono ?_;rintro e w2 ⟨rfl,rfl⟩;exact⟨rfl,rfl,HAL.out.drew⟩
 ·have hge:decide ((0:Int)≤m.a.v)=false:=decide_eq_false hlo;generalize m.a.v=k at *;generalize m.st.mem.length=n at *;clear h h1 hal hc hc';go_enter Tryz.func148,Tryz.ntmps148;go_wp2;refine q8g 20 (by kernel_rfl) (by kernel_rfl) (fun ops HOPS=>?_);simp only[List.take_succ_cons,List.take_zero,List.drop_succ_cons,List.drop_zero];iterate 7 still_step
  iterate 12 refine z1q (by simp[Region.wanted,yielded,HOPS.out]) (by simp[Act.put]) ?_
  still_step
  refine wpStill_nil ?_;go_wp2_with (fail);refine HM.out.mono ?_;rintro e w2 ⟨rfl,rfl⟩;exact⟨rfl,rfl,HAL.out.drew⟩
end
end Go.Proofs.YtjobifclmcdjcaaGreatDoor
