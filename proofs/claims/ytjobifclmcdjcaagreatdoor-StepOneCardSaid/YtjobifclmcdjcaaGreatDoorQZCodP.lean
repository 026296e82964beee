import Derived.Lib.ItoaNum
import Derived.Test.YtjobifclmcdjcaaGreatDoorQZRulA
import Derived.Test.YtjobifclmcdjcaaGreatDoorQZOrdC
import Derived.Test.YtjobifclmcdjcaaGreatDoorQZPub
set_option maxHeartbeats 64000000
set_option maxRecDepth 100000
namespace Go.Proofs.YtjobifclmcdjcaaGreatDoor
namespace Cd
open Lx (Tk pack)
open Tb (tok Fine)
structure In where
 op:Int
 n:Int
 l:Int
deriving DecidableEq
def most(op:Int):Int:=if op=8 then 12 else if op=9 then 3 else if op=10 then 1 else 0
def inB(k:Nat)(x:In):Bool :=
 if x.op=1 then decide (-20≤x.n∧x.n≤20∧0≤x.l∧x.l<k)
 else decide (0≤x.op∧x.op<13∧0≤x.n∧x.n≤most x.op∧x.l=0)
def rightB(k:Nat)(l:List In):Bool:=decide (l.length≤12)&&l.all (inB k)
theorem inB_op{k:Nat}{x:In}(h:inB k x=true):0≤x.op∧x.op<13:=by
 unfold inB at h;by_cases h1:x.op=1
 ·omega
 ·rw[if_neg h1] at h;have:=of_decide_eq_true h;exact⟨this.1,this.2.1⟩
end Cd
end Go.Proofs.YtjobifclmcdjcaaGreatDoor
namespace Go.Proofs.YtjobifclmcdjcaaGreatDoor
open Lx (Tk pack toks first)
open Tb (tok Fine)
namespace St
structure Atom where
 v:Int
 l:Int
structure Slot where
 ret:Bool
 v:Int
 l:Int
structure State where
 pc:Atom
 code:List Cd.In
 mem:List Atom
 stack:List Slot
 out:List Atom
deriving instance DecidableEq for Atom
deriving instance DecidableEq for Slot
def labB(k:Nat)(a:Int):Bool:=decide (0≤a∧a<k)
def valB(v:Int):Bool:=decide (-20≤v∧v≤20)
def pcB(v:Int):Bool:=decide (0≤v∧v≤12)
def atomB(k:Nat)(x:Atom):Bool:=valB x.v&&labB k x.l
def slotB(k:Nat)(x:Slot):Bool:=valB x.v&&labB k x.l&&(!x.ret || pcB x.v)
def rightB(k:Nat)(s:State):Bool :=
 Cd.rightB k s.code&&(pcB s.pc.v&&labB k s.pc.l)&&(decide (s.mem.length≤6)&&s.mem.all (atomB k))&&(decide (s.stack.length≤12)&&s.stack.all (slotB k))&&(decide (s.out.length≤8)&&s.out.all (atomB k))
end St
namespace St
def zero:State:=⟨⟨0,0⟩,[],[],[],[]⟩
end St
namespace St
structure Parts (k:Nat) (s:State):Prop where
 code:Cd.rightB k s.code=true
 pcv:pcB s.pc.v=true
 pcl:labB k s.pc.l=true
 meml:s.mem.length≤6
 mem:s.mem.all (atomB k)=true
 stackl:s.stack.length≤12
 stack:s.stack.all (slotB k)=true
 outl:s.out.length≤8
 out:s.out.all (atomB k)=true
end St
end Go.Proofs.YtjobifclmcdjcaaGreatDoor
namespace Go.Proofs.YtjobifclmcdjcaaGreatDoor
namespace Sp
open St (State Atom Slot rightB)
structure Nd where
 is:Bool
 a:Slot
 b:Slot
 r:Slot
 one:Int
 two:Int
 three:Int
 below:Nat
def slot0:Slot:=⟨false,0,0⟩
def nd0:Nd:=⟨false,slot0,slot0,slot0,0,0,0,0⟩
def atomAt(s:List Slot)(down:Nat):Bool:=decide (down+1≤s.length)&&!(s.getD (s.length-1-down) slot0).ret
def frameAt(s:List Slot):Nat→Option Nat
 | 0=>none
 | i+1=>if(s.getD i slot0).ret=true then some i else frameAt s i
def takesT:List Nat:=[0,0,1,2,2,1,2,1,1,1,0,1,0]
def takesN(x:Cd.In):Nat:=if x.op=10 then x.n.toNat else takesT.getD x.op.toNat 0
def atomsTo(s:List Slot)(from_ n:Nat):Bool:=(List.range n).all fun i=>atomAt s (from_+i)
def needs(bot:Int)(s:State)(x:Cd.In):Nd :=
 if atomsTo s.stack 0 (takesN x)=true then
  let a:=if 0<takesN x then s.stack.getD (s.stack.length-1) slot0 else slot0
  let b:=if 1<takesN x then s.stack.getD (s.stack.length-2) slot0 else slot0
  let one:=if 0<takesN x then a.l else bot
  let two:=if 1<takesN x then b.l else bot
  let below:=s.stack.length-takesN x
  let n:Nd:=⟨true,a,b,slot0,one,two,bot,below⟩
  if x.op=1 then{ n with one:=x.l }
  else if x.op=5∨x.op=6 then
   if a.v<0∨(s.mem.length:Int)≤a.v then nd0
   else if x.op=5 then{ n with two:=(s.mem.getD a.v.toNat ⟨0,0⟩).l } else{ n with three:=(s.mem.getD a.v.toNat ⟨0,0⟩).l }
  else if x.op=7∨x.op=9 then
   if a.v<0∨12<a.v then nd0
   else if atomsTo s.stack 1 x.n.toNat=true then n else nd0
  else if x.op=10 then
   match frameAt s.stack below with
   | none=>nd0
   | some i=>{ n with r:=s.stack.getD i slot0,two:=(s.stack.getD i slot0).l,below:=i }
  else n
 else nd0
def stackT(s:State)(x:Cd.In)(n:Nd)(res:Int):List Slot :=
 if x.op=1 then s.stack.take n.below++[⟨false,x.n,res⟩]
 else if x.op=3 then s.stack.take n.below++[⟨false,n.b.v+n.a.v,res⟩]
 else if x.op=4 then s.stack.take n.below++[⟨false,n.b.v-n.a.v,res⟩]
 else if x.op=5 then s.stack.take n.below++[⟨false,(s.mem.getD n.a.v.toNat ⟨0,0⟩).v,res⟩]
 else if x.op=9 then s.stack.take (n.below-x.n.toNat)++[⟨true,s.pc.v+1,s.pc.l⟩]++(s.stack.take n.below).drop (n.below-x.n.toNat)
 else if x.op=10∧x.n=1 then s.stack.take n.below++[⟨false,n.a.v,res⟩]
 else s.stack.take n.below
def nextT(s:State)(x:Cd.In)(n:Nd):Int :=
 if x.op=7∨x.op=9 then n.a.v else if x.op=10 then n.r.v else if x.op=8∧n.a.v≠0 then x.n else s.pc.v+1
def memT(s:State)(x:Cd.In)(n:Nd)(res:Int):List Atom :=
 if x.op=6 then s.mem.set n.a.v.toNat ⟨n.b.v,res⟩ else s.mem
def outT(s:State)(x:Cd.In)(n:Nd)(res:Int):List Atom:=if x.op=11 then s.out++[⟨n.a.v,res⟩] else s.out
structure Rw where
 may:List Int→Bool
 res:List Int→Int
 pc:List Int→Int
def thenT(k:Nat)(bot:Int)(s:State)(x:Cd.In)(r:Rw):State×Nat :=
 let n:=needs bot s x
 let labs:=[s.pc.l,n.one,n.two,n.three]
 let out:State:=⟨⟨nextT s x n,r.pc labs⟩,s.code,memT s x n (r.res labs),stackT s x n (r.res labs),outT s x n (r.res labs)⟩
 if n.is=false then(s,3) else if x.op=12 then(s,1) else if r.may labs=false then(s,2) else if rightB k out=true then(out,0) else(s,3)
def step(k:Nat)(bot:Int)(rw_:Int→Rw)(s:State):State×Nat :=
 match s.code[s.pc.v.toNat]? with
 | none=>(s,3)
 | some x=>thenT k bot s x (rw_ x.op)
theorem memT_length(s:State)(x:Cd.In)(n:Nd)(res:Int):(memT s x n res).length=s.mem.length:=by unfold memT;split<;>simp
theorem z43(s:State)(x:Cd.In)(n:Nd)(res:Int):(outT s x n res).take s.out.length=s.out∧s.out.length≤(outT s x n res).length∧(outT s x n res).length≤s.out.length+1:=by
 unfold outT;split
 ·simp
 ·simp
theorem stackT_le(s:State)(x:Cd.In)(n:Nd)(res:Int):(stackT s x n res).length≤s.stack.length+1:=by
 unfold stackT
 repeat' split
 all_goals (simp only[List.length_append,List.length_cons,List.length_nil,List.length_drop,List.length_take];omega)
structure Stays (k:Nat) (s:State) (o:State×Nat):Prop where
 right:rightB k o.1=true
 code:o.1.code=s.code
 mem:o.1.mem.length=s.mem.length
 out:o.1.out.take s.out.length=s.out∧s.out.length≤o.1.out.length
 same:o.2≠0→o.1=s∧o.2≤3
 more:o.1.out.length≤s.out.length+1∧o.1.stack.length≤s.stack.length+1
theorem Stays.none{k:Nat}{s:State}(h:rightB k s=true){n:Nat}(hn:n≤3):Stays k s (s,n) :=
 ⟨h,rfl,rfl,⟨List.take_length,Nat.le_refl _⟩,fun _=>⟨rfl,hn⟩,by dsimp only;omega⟩
theorem z5v{k:Nat}{s:State}(h:rightB k s=true)(bot:Int)(x:Cd.In)(r:Rw):Stays k s (thenT k bot s x r):=by
 unfold thenT;dsimp only;split
 ·exact .none h (by decide)
 ·split
  ·exact .none h (by decide)
  ·split
   ·exact .none h (by decide)
   ·split
    ·next hr =>
     have ho:=z43 s x (needs bot s x) (r.res [s.pc.l,(needs bot s x).one,(needs bot s x).two,(needs bot s x).three]);exact⟨hr,rfl,memT_length _ _ _ _,⟨ho.1,ho.2.1⟩,fun h=>absurd rfl h,⟨ho.2.2,stackT_le _ _ _ _⟩⟩
    ·exact .none h (by decide)
theorem step_stays{k:Nat}{s:State}(h:rightB k s=true)(bot:Int)(rw_:Int→Rw):Stays k s (step k bot rw_ s):=by
 unfold step;split
 ·exact .none h (by decide)
 ·exact z5v h _ _ _
theorem step_row{k:Nat}{bot:Int}{r1 r2:Int→Rw}{s:State}(h:∀ x,s.code[s.pc.v.toNat]? = some x→r1 x.op=r2 x.op):step k bot r1 s=step k bot r2 s:=by
 unfold step;cases hx:s.code[s.pc.v.toNat]? with
 | none=>rfl
 | some x=>dsimp only;rw[h x hx]
theorem step_false{k:Nat}{bot:Int}{r1 r2:Int→Rw}{s:State}{x:Cd.In}(hx:s.code[s.pc.v.toNat]? = some x)(h2:∀ l,(r2 x.op).may l=false) :
  (step k bot r2 s).2≠0∧(step k bot r2 s).1=s ∧
   ((step k bot r1 s).2=(step k bot r2 s).2∨(step k bot r1 s).2=0∨(step k bot r1 s).2=2∨((step k bot r1 s).2=3∧(step k bot r2 s).2=2)):=by
 unfold step;rw[hx];dsimp only;unfold thenT;dsimp only;rw[h2];by_cases h1:(needs bot s x).is=false
 ·rw[if_pos h1,if_pos h1];exact⟨by simp,rfl,.inl rfl⟩
 ·rw[if_neg h1,if_neg h1];by_cases h12:x.op=12
  ·rw[if_pos h12,if_pos h12];exact⟨by simp,rfl,.inl rfl⟩
  ·rw[if_neg h12,if_neg h12,if_pos rfl];refine⟨by simp,rfl,?_⟩;split
   ·exact .inl rfl
   ·split
    ·exact .inr (.inl rfl)
    ·exact .inr (.inr (.inr ⟨rfl,rfl⟩))
end Sp
namespace Sp
open St (State Atom Slot rightB)
structure M where
 st:State
 ins:Cd.In
 a:Slot
 b:Slot
 args:List Slot
 back:Slot
 one:Int
 two:Int
 three:Int
 res:Int
 next:Int
def start(bot:Int)(s:State)(x:Cd.In):M:=⟨s,x,slot0,slot0,[],slot0,bot,bot,bot,0,0⟩
def M.left(m:M)(n:Nat):M:={ m with st:={ m.st with stack:=m.st.stack.take n } }
def M.put(m:M)(l:List Slot):M:={ m with st:={ m.st with stack:=m.st.stack++l } }
def atoms(l:List Slot):Bool:=l.all fun x=>!x.ret
def topN(l:List Slot)(n:Nat):Option (List Slot) :=
 if n≤l.length∧atoms (l.drop (l.length-n))=true then some (l.drop (l.length-n)) else none
def M.withA(m:M)(x:Slot):M:={ m with a:=x,one:=x.l }
def M.withB(m:M)(x:Slot):M:={ m with b:=x,two:=x.l }
def M.needOne(m:M):Option M:=(topN m.st.stack 1).map fun t=>(m.left (m.st.stack.length-1)).withA (t.getD 0 slot0)
def M.takeB(m:M):Option M:=(topN m.st.stack 1).map fun t=>(m.left (m.st.stack.length-1)).withB (t.getD 0 slot0)
def M.needTwo(m:M):Option M:=m.needOne.bind M.takeB
def M.cellB(m:M):Bool:=decide (0≤m.a.v∧m.a.v<(m.st.mem.length:Int))
def M.cell(m:M):Atom:=m.st.mem.getD m.a.v.toNat ⟨0,0⟩
def M.needCell(m:M):Option M:=m.needOne.bind fun m=>if m.cellB=true then some { m with two:=m.cell.l } else none
def M.needTwoAndCell(m:M):Option M:=m.needTwo.bind fun m=>if m.cellB=true then some { m with three:=m.cell.l } else none
def placeB(v:Int):Bool:=decide (0≤v∧v≤12)
def M.needPlace(m:M):Option M:=m.needOne.bind fun m=>if placeB m.a.v=true then some m else none
def M.withArgs(m:M)(t:List Slot):M:={ m with args:=t }
def M.needPlaceAndArgs(m:M):Option M:=m.needPlace.bind fun m=>(topN m.st.stack m.ins.n.toNat).map fun t=>(m.left (m.st.stack.length-m.ins.n.toNat)).withArgs t
def M.withBack(m:M)(x:Slot):M:={ m with back:=x,two:=x.l }
def M.needRet(m:M):Option M:=(frameAt m.st.stack m.st.stack.length).map fun i=>(m.withBack (m.st.stack.getD i slot0)).left i
def M.needBack(m:M):Option M:=(if m.ins.n=1 then m.needOne else some m).bind M.needRet
def M.needOwn(m:M):M:={ m with one:=m.ins.l }
def M.need(m:M)(op:Int):Option M :=
 if op=0∨op=12 then some m else if op=1 then some m.needOwn else if op=2∨op=8∨op=11 then m.needOne
 else if op=3∨op=4 then m.needTwo else if op=5 then m.needCell else if op=6 then m.needTwoAndCell
 else if op=7 then m.needPlace else if op=9 then m.needPlaceAndArgs else m.needBack
def M.result(m:M)(v:Int):M:=m.put [⟨false,v,m.res⟩]
def M.goTo(m:M)(v:Int):M:={ m with next:=v }
def M.store(m:M):M:={ m with st:={ m.st with mem:=m.st.mem.set m.a.v.toNat ⟨m.b.v,m.res⟩ } }
def M.call(m:M):M:=((m.put [⟨true,m.next,m.st.pc.l⟩]).put m.args).goTo m.a.v
def M.branch(m:M):M:=if m.a.v≠0 then m.goTo m.ins.n else m
def M.goBack(m:M):M:=(if m.ins.n=1 then m.result m.a.v else m).goTo m.back.v
def M.output(m:M):M:={ m with st:={ m.st with out:=m.st.out++[⟨m.a.v,m.res⟩] } }
def M.deed(m:M)(op:Int):M :=
 if op=1 then m.result m.ins.n else if op=3 then m.result (m.b.v+m.a.v) else if op=4 then m.result (m.b.v-m.a.v) else if op=5 then m.result m.cell.v
 else if op=6 then m.store else if op=7 then m.goTo m.a.v else if op=8 then m.branch else if op=9 then m.call else if op=10 then m.goBack else if op=11 then m.output else m
def M.labs(m:M):List Int:=[m.st.pc.l,m.one,m.two,m.three]
def M.before(m:M)(res:Int):M:={ m with res:=res,next:=m.st.pc.v+1 }
def M.after(m:M)(pc:Int):M:={ m with st:={ m.st with pc:=⟨m.next,pc⟩ } }
def go(k:Nat)(bot:Int)(s:State)(x:Cd.In)(r:Rw):Option (M×Nat) :=
 ((start bot s x).need x.op).bind fun m =>
  if x.op=12 then some (m,1) else if r.may m.labs=false then some (m,2)
  else if rightB k (((m.before (r.res m.labs)).deed x.op).after (r.pc m.labs)).st=true then some (((m.before (r.res m.labs)).deed x.op).after (r.pc m.labs),0) else none
def run(k:Nat)(bot:Int)(rw_:Int→Rw)(s:State):Option (M×Nat) :=
 match s.code[s.pc.v.toNat]? with
 | none=>none
 | some x=>go k bot s x (rw_ x.op)
def told(s:State):Option (M×Nat)→State×Nat
 | none=>(s,3)
 | some (m,n)=>if n=0 then(m.st,0) else(s,n)
theorem z38(d:Nat):atomAt [] d=false:=by simp[atomAt]
theorem q15(l:List Slot)(x:Slot):atomAt (l++[x]) 0 = !x.ret:=by
 unfold atomAt;simp
theorem z1t(l:List Slot)(x:Slot)(d:Nat):atomAt (l++[x]) (d+1)=atomAt l d:=by
 unfold atomAt;rw[List.length_append,List.length_singleton];by_cases h:d+1≤l.length
 ·rw[decide_eq_true (show d+1+1≤l.length+1 by omega),decide_eq_true h,Bool.true_and,Bool.true_and,
   List.getD_eq_getElem?_getD,List.getD_eq_getElem?_getD,List.getElem?_append_left (by omega),show l.length+1-1-(d+1)=l.length-1-d by omega]
 ·rw[decide_eq_false (show ¬d+1+1≤l.length+1 by omega),decide_eq_false h,Bool.false_and,Bool.false_and]
theorem q2w(l:List Slot)(d:Nat):atomsTo l d 0=true:=rfl
theorem q1e(l:List Slot)(d n:Nat):atomsTo l d (n+1)=(atomAt l d&&atomsTo l (d+1) n):=by
 unfold atomsTo;rw[List.range_succ_eq_map,List.all_cons,List.all_map,Nat.add_zero]
 congr 1
 apply List.all_congr rfl;intro i;show atomAt l (d+(i+1))=_;rw[show d+(i+1)=d+1+i by omega]
theorem q2v(l:List Slot)(x:Slot)(d n:Nat):atomsTo (l++[x]) (d+1) n=atomsTo l d n:=by
 unfold atomsTo;apply List.all_congr rfl;intro i;rw[show d+1+i=d+i+1 by omega,z1t]
theorem q8i:∀(n:Nat) (l:List Slot),(decide (n≤l.length)&&atoms (l.drop (l.length-n)))=atomsTo l 0 n
 | 0,l=>by simp[atomsTo,atoms]
 | n+1,l=>by
  rw[q1e]
  rcases List.eq_nil_or_concat l with rfl|⟨r,x,rfl⟩
  ·simp[z38]
  ·rw[List.concat_eq_append,q15,q2v,←q8i n r,List.length_append,List.length_singleton]
   by_cases h:n≤r.length
   ·rw[decide_eq_true h,decide_eq_true (show n+1≤r.length+1 by omega),Bool.true_and,Bool.true_and,show r.length+1-(n+1)=r.length-n by omega,List.drop_append_of_le_length (by omega)]
    unfold atoms
    rw[List.all_append,Bool.and_comm]
    simp
   ·rw[decide_eq_false h,decide_eq_false (show ¬n+1≤r.length+1 by omega),Bool.false_and,Bool.false_and,Bool.and_false]
theorem z34(l:List Slot)(n:Nat):topN l n=if atomsTo l 0 n=true then some (l.drop (l.length-n)) else none:=by
 unfold topN;rw[←q8i];simp only[Bool.and_eq_true,decide_eq_true_eq]
theorem z1m:topN [] 1=none:=by simp[topN]
theorem q5n(l:List Slot)(x:Slot):topN (l++[x]) 1=if x.ret=true then none else some [x]:=by
 rw[z34,q1e,q15,q2w,Bool.and_true];cases x.ret<;>simp
def mOf(s:State)(x:Cd.In)(n:Nd):M :=
 ⟨{ s with stack:=s.stack.take (if x.op=9 then n.below-x.n.toNat else n.below) },x,n.a,n.b,if x.op=9 then(s.stack.take n.below).drop (n.below-x.n.toNat) else[],n.r,n.one,n.two,n.three,0,0⟩
theorem q9f(l:List Slot)(x:Slot):(l++[x]).getD ((l++[x]).length-1) slot0=x:=by simp
theorem z4u(l:List Slot)(x y:Slot):(l++[y]++[x]).getD ((l++[y]++[x]).length-2) slot0=y:=by
 rw[List.length_append,List.length_append,List.getD_eq_getElem?_getD];simp
def M.on(m:M)(l:List Slot):M:={ m with st:={ m.st with stack:=l } }
section
variable {m:M} {l:List Slot} {x:Slot}
theorem needOne_nil(h:m.st.stack=[]):m.needOne=none:=by unfold M.needOne;rw[h,z1m];rfl
theorem needOne_ret(h:m.st.stack=l++[x])(hx:x.ret=true):m.needOne=none:=by unfold M.needOne;rw[h,q5n,if_pos hx];rfl
theorem needOne_yes(h:m.st.stack=l++[x])(hx:x.ret=false):m.needOne=some ((m.on l).withA x):=by
 unfold M.needOne;rw[h,q5n,if_neg (by rw[hx];decide)];unfold M.left M.on;rw[h];simp
theorem takeB_nil(h:m.st.stack=[]):m.takeB=none:=by unfold M.takeB;rw[h,z1m];rfl
theorem takeB_ret(h:m.st.stack=l++[x])(hx:x.ret=true):m.takeB=none:=by unfold M.takeB;rw[h,q5n,if_pos hx];rfl
theorem takeB_yes(h:m.st.stack=l++[x])(hx:x.ret=false):m.takeB=some ((m.on l).withB x):=by
 unfold M.takeB;rw[h,q5n,if_neg (by rw[hx];decide)];unfold M.left M.on;rw[h];simp
end
theorem ops_of{k:Nat}{x:Cd.In}(h:Cd.inB k x=true):(x.op=0∨x.op=1∨x.op=2∨x.op=3∨x.op=4∨x.op=5∨x.op=6∨x.op=7∨x.op=8∨x.op=9∨x.op=10∨x.op=11∨x.op=12) ∧
  (x.op=9→0≤x.n∧x.n≤3)∧(x.op=10→x.n=0∨x.n=1)∧(x.op=8→0≤x.n∧x.n≤12)∧(x.op=7→x.n=0)∧(-20≤x.n∧x.n≤20)∧(0≤x.l∧(x.l<k∨x.l=0)):=by
 unfold Cd.inB at h;split at h
 ·rename_i h1
  have:=of_decide_eq_true h;refine⟨by omega,fun _=>by omega,fun _=>by omega,fun _=>by omega,fun _=>by omega,by omega,by omega⟩
 ·obtain⟨h1,h2,h3,h4,h5⟩:=of_decide_eq_true h;unfold Cd.most at h4;refine⟨by omega,fun e=>?_,fun e=>?_,fun e=>?_,fun e=>?_,?_,by omega⟩
  ·rw[if_neg (by omega),if_pos e] at h4;omega
  ·rw[if_neg (by omega),if_neg (by omega),if_pos e] at h4;omega
  ·rw[if_pos e] at h4;omega
  ·rw[if_neg (by omega),if_neg (by omega),if_neg (by omega)] at h4;omega
  ·split at h4
   ·omega
   ·split at h4
    ·omega
    ·split at h4<;>omega
theorem z39:atomsTo [] 0 1=false:=rfl
theorem q93(l:List Slot)(y:Slot):atomsTo (l++[y]) 0 1 = !y.ret:=by rw[q1e,q15,q2w,Bool.and_true]
theorem z4a(y:Slot):atomsTo ([]++[y]) 0 2=false:=by rw[q1e,q2v,z39,Bool.and_false]
theorem z52(l:List Slot)(z y:Slot):atomsTo (l++[z]++[y]) 0 2=(!y.ret&&!z.ret):=by rw[q1e,q15,q2v,q93]
def nd1(l:List Slot)(y:Slot)(bot:Int):Nd:=⟨true,y,slot0,slot0,y.l,bot,bot,l.length⟩
def nd2(l:List Slot)(z y:Slot)(bot:Int):Nd:=⟨true,y,z,slot0,y.l,z.l,bot,l.length⟩
theorem j06(l:List Slot)(x:Slot):(l++[x]).length-1=l.length:=by simp
theorem z8w(l:List Slot)(x y:Slot):(l++[y]++[x]).length-2=l.length:=by rw[List.length_append,List.length_append];simp
def more(s:State)(x:Cd.In)(n:Nd):Nd :=
  if x.op=1 then{ n with one:=x.l }
  else if x.op=5∨x.op=6 then
   if n.a.v<0∨(s.mem.length:Int)≤n.a.v then nd0
   else if x.op=5 then{ n with two:=(s.mem.getD n.a.v.toNat ⟨0,0⟩).l } else{ n with three:=(s.mem.getD n.a.v.toNat ⟨0,0⟩).l }
  else if x.op=7∨x.op=9 then
   if n.a.v<0∨12<n.a.v then nd0
   else if atomsTo s.stack 1 x.n.toNat=true then n else nd0
  else if x.op=10 then
   match frameAt s.stack n.below with
   | none=>nd0
   | some i=>{ n with r:=s.stack.getD i slot0,two:=(s.stack.getD i slot0).l,below:=i }
  else n
section
variable {bot:Int} {s:State} {x:Cd.In} {l:List Slot} {y z:Slot}
theorem needs_not(h:atomsTo s.stack 0 (takesN x)=false):needs bot s x=nd0:=by unfold needs;rw[h];rfl
theorem q8u(h:takesN x=0):needs bot s x=more s x ⟨true,slot0,slot0,slot0,bot,bot,bot,s.stack.length⟩:=by
 unfold needs;rw[h,q2w,if_pos rfl];rfl
theorem z3w(h:takesN x=1)(hs:s.stack=l++[y])(hy:y.ret=false):needs bot s x=more s x (nd1 l y bot):=by
 have e1:(l++[y]).length-1=l.length:=j06 l y;unfold needs;rw[h,hs,q93,hy,if_pos (show(!false)=true from rfl),q9f,e1];unfold more;rw[hs];rfl
theorem j1c(h:takesN x=2)(hs:s.stack=l++[z]++[y])(hy:y.ret=false)(hz:z.ret=false):needs bot s x=more s x (nd2 l z y bot):=by
 have e1:=z8w l y z;unfold needs;rw[h,hs,z52,hy,hz,if_pos (show(!false&&!false)=true from rfl),q9f,z4u,e1];unfold more;rw[hs];rfl
end
theorem last_ways(l:List Slot):l=[]∨(∃ r y,l=r++[y]∧y.ret=true)∨∃ r y,l=r++[y]∧y.ret=false:=by
 rcases List.eq_nil_or_concat l with h|⟨r,y,h⟩
 ·exact .inl h
 ·rw[List.concat_eq_append] at h;cases hy:y.ret with
  | true=>exact .inr (.inl ⟨r,y,h,hy⟩)
  | false=>exact .inr (.inr ⟨r,y,h,hy⟩)
theorem frameAt_le(l:List Slot):∀ {n i:Nat},frameAt l n=some i→i<n∧(l.getD i slot0).ret=true
 | 0,i,h=>by cases h
 | n+1,i,h=>by
  unfold frameAt at h
  split at h
  ·rename_i hr
   injection h with h
   subst h
   exact⟨by omega,hr⟩
  ·have:=frameAt_le l h
   exact⟨by omega,this.2⟩
theorem q64(l r:List Slot):∀ {n:Nat},n≤l.length→frameAt (l++r) n=frameAt l n
 | 0,_=>rfl
 | n+1,h=>by
  unfold frameAt
  rw[List.getD_eq_getElem?_getD,List.getD_eq_getElem?_getD,List.getElem?_append_left (by omega),q64 l r (by omega)]
theorem q6r(k:Nat)(bot:Int)(s:State)(x:Cd.In)(hx:Cd.inB k x=true) :
  (start bot s x).need x.op=if(needs bot s x).is=true then some (mOf s x (needs bot s x)) else none:=by
 obtain⟨hop,h9,h10,-,h7,-,-⟩:=ops_of hx;clear hx;obtain⟨op,n,lb⟩:=x;obtain⟨pc,code,mem,stack,out⟩:=s;dsimp only at hop h9 h10 h7 ⊢;have zero:op=0∨op=1∨op=12→takesN ⟨op,n,lb⟩=0:=by rintro(rfl|rfl|rfl)<;>rfl
 have one:op=2∨op=5∨op=7∨op=8∨op=9∨op=11→takesN ⟨op,n,lb⟩=1:=by rintro(rfl|rfl|rfl|rfl|rfl|rfl)<;>rfl
 have two:op=3∨op=4∨op=6→takesN ⟨op,n,lb⟩=2:=by rintro(rfl|rfl|rfl)<;>rfl
 by_cases o0:op=0∨op=1∨op=12
 ·rw[q8u (zero o0)];rcases o0 with rfl|rfl|rfl<;>simp[M.need,more,start,mOf,M.needOwn]
 by_cases o2:op=3∨op=4∨op=6
 ·have hneed:(start bot ⟨pc,code,mem,stack,out⟩ ⟨op,n,lb⟩).need op=(start bot ⟨pc,code,mem,stack,out⟩ ⟨op,n,lb⟩).needTwo.bind fun m=>if op=6 then(if m.cellB=true then some { m with three:=m.cell.l } else none) else some m:=by
   rcases o2 with rfl|rfl|rfl
   ·simp[M.need]
   ·simp[M.need]
   ·simp[M.need,M.needTwoAndCell]
  rw[hneed];clear hneed;rcases last_ways stack with rfl|⟨l,y,rfl,hy⟩|⟨l,y,rfl,hy⟩
  ·rw[needs_not (by rw[two o2];rfl),M.needTwo,needOne_nil rfl];rfl
  ·rw[needs_not (by rw[two o2,q1e,q15,hy];rfl),M.needTwo,needOne_ret rfl hy];rfl
  ·rw[M.needTwo,needOne_yes rfl hy];rcases last_ways l with rfl|⟨l,z,rfl,hz⟩|⟨l,z,rfl,hz⟩
   ·rw[needs_not (by rw[two o2];exact z4a y),Option.bind_some,takeB_nil rfl];rfl
   ·rw[needs_not (by rw[two o2];dsimp only;rw[z52,hz,Bool.not_true,Bool.and_false]),Option.bind_some,takeB_ret rfl hz];rfl
   ·rw[j1c (two o2) rfl hy hz,Option.bind_some,takeB_yes rfl hz,Option.bind_some];rcases o2 with rfl|rfl|rfl
    ·simp[more,nd2,mOf,M.on,M.withA,M.withB,start]
    ·simp[more,nd2,mOf,M.on,M.withA,M.withB,start]
    ·by_cases hc:0≤y.v∧y.v<(mem.length:Int)
     ·simp[more,nd2,mOf,M.on,M.withA,M.withB,start,M.cellB,M.cell,hc,show ¬(y.v<0∨(mem.length:Int)≤y.v) by omega]
     ·simp[more,nd2,M.on,M.withA,M.withB,start,M.cellB,hc,show(y.v<0∨(mem.length:Int)≤y.v) by omega,nd0]
 by_cases o10:op=10
 ·subst o10;rcases h10 rfl with rfl|rfl
  ·rw[q8u rfl];show(start bot ⟨pc,code,mem,stack,out⟩ ⟨10,0,lb⟩).needRet=_;unfold M.needRet more;simp[start];cases hf:frameAt stack stack.length with
   | none=>simp[nd0]
   | some i=>simp[mOf,M.withBack,M.left]
  ·show((start bot ⟨pc,code,mem,stack,out⟩ ⟨10,1,lb⟩).needOne.bind M.needRet)=_;rcases last_ways stack with rfl|⟨l,y,rfl,hy⟩|⟨l,y,rfl,hy⟩
   ·rw[needs_not rfl,needOne_nil rfl];rfl
   ·rw[needs_not (by show atomsTo (l++[y]) 0 1=false;rw[q93,hy];rfl),needOne_ret rfl hy];rfl
   ·rw[z3w rfl rfl hy,needOne_yes rfl hy,Option.bind_some];unfold M.needRet more;simp[start,M.on,M.withA,nd1,q64];cases hf:frameAt l l.length with
    | none=>simp[nd0]
    | some i =>
     have hi:=(frameAt_le l hf).1;simp[mOf,M.withBack,M.left,List.getElem?_append_left hi,List.take_append_of_le_length (Nat.le_of_lt hi)]
 have o1:op=2∨op=5∨op=7∨op=8∨op=9∨op=11:=by omega
 rcases last_ways stack with rfl|⟨l,y,rfl,hy⟩|⟨l,y,rfl,hy⟩
 ·rw[needs_not (by rw[one o1];rfl)];rcases o1 with rfl|rfl|rfl|rfl|rfl|rfl<;>simp[M.need,M.needCell,M.needPlaceAndArgs,M.needPlace,needOne_nil (m:=start bot ⟨pc,code,mem,[],out⟩ _) rfl,nd0]
 ·rw[needs_not (by rw[one o1,q1e,q15,hy];rfl)];rcases o1 with rfl|rfl|rfl|rfl|rfl|rfl<;>simp[M.need,M.needCell,M.needPlaceAndArgs,M.needPlace,needOne_ret (m:=start bot ⟨pc,code,mem,l++[y],out⟩ _) rfl hy,nd0]
 ·rw[z3w (one o1) rfl hy];have hn:=needOne_yes (m:=start bot ⟨pc,code,mem,l++[y],out⟩ ⟨op,n,lb⟩) rfl hy;rcases o1 with rfl|rfl|rfl|rfl|rfl|rfl
  ·simp only[M.need,hn,or_self,or_false,if_true,if_false,Int.reduceEq];simp[more,nd1,mOf,M.on,M.withA,start]
  ·by_cases hc:0≤y.v∧y.v<(mem.length:Int)
   ·simp only[M.need,M.needCell,hn,Option.bind_some,or_self,if_true,if_false,Int.reduceEq];simp[more,nd1,mOf,M.on,M.withA,start,M.cellB,M.cell,hc,show ¬(y.v<0∨(mem.length:Int)≤y.v) by omega]
   ·simp only[M.need,M.needCell,hn,Option.bind_some,or_self,if_true,if_false,Int.reduceEq];simp[more,nd1,M.on,M.withA,start,M.cellB,hc,show(y.v<0∨(mem.length:Int)≤y.v) by omega,nd0]
  ·by_cases hc:0≤y.v∧y.v≤12
   ·obtain rfl:=h7 rfl;simp only[M.need,M.needPlace,hn,Option.bind_some,or_self,if_true,if_false,Int.reduceEq];simp[more,nd1,mOf,M.on,M.withA,start,placeB,hc,show ¬(y.v<0∨12<y.v) by omega,q2w]
   ·simp only[M.need,M.needPlace,hn,Option.bind_some,or_self,if_true,if_false,Int.reduceEq];simp[more,nd1,M.on,M.withA,start,placeB,hc,show(y.v<0∨12<y.v) by omega,nd0]
  ·simp only[M.need,hn,or_self,or_false,if_true,if_false,Int.reduceEq,or_true];simp[more,nd1,mOf,M.on,M.withA,start]
  ·obtain⟨h91,h92⟩:=h9 rfl;by_cases hc:0≤y.v∧y.v≤12
   ·have hto:atomsTo (l++[y]) 1 n.toNat=atomsTo l 0 n.toNat:=q2v l y 0 n.toNat
    simp only[M.need,M.needPlaceAndArgs,M.needPlace,hn,Option.bind_some,or_self,if_true,if_false,Int.reduceEq];simp[more,nd1,mOf,M.on,M.withA,start,placeB,hc,show ¬(y.v<0∨12<y.v) by omega,z34,hto];cases ha:atomsTo l 0 n.toNat with
    | false=>simp[nd0]
    | true =>
     simp[M.withArgs,M.left];rw[List.take_append_of_le_length (by omega)]
   ·simp only[M.need,M.needPlaceAndArgs,M.needPlace,hn,Option.bind_some,or_self,if_true,if_false,Int.reduceEq];simp[more,nd1,M.on,M.withA,start,placeB,hc,show(y.v<0∨12<y.v) by omega,nd0]
  ·simp only[M.need,hn,or_self,if_true,if_false,Int.reduceEq,or_true];simp[more,nd1,mOf,M.on,M.withA,start]
theorem z3r{k:Nat}{s:State}{x:Cd.In}(hx:Cd.inB k x=true)(n:Nd)(res pc:Int) :
  ((((mOf s x n).before res).deed x.op).after pc).st=⟨⟨nextT s x n,pc⟩,s.code,memT s x n res,stackT s x n res,outT s x n res⟩:=by
 obtain⟨hop,-,h10,-,-,-,-⟩:=ops_of hx;clear hx;obtain⟨op,m,lb⟩:=x;dsimp only at hop h10 ⊢;rcases hop with rfl|rfl|rfl|rfl|rfl|rfl|rfl|rfl|rfl|rfl|rfl|rfl|rfl;case inr.inr.inr.inr.inr.inr.inr.inr.inl =>
  by_cases hv:n.a.v=0<;>simp[M.deed,M.before,M.after,mOf,M.branch,M.goTo,hv,nextT,memT,stackT,outT]
 case inr.inr.inr.inr.inr.inr.inr.inr.inr.inl =>
  simp[M.deed,M.before,M.after,mOf,M.call,M.goTo,M.put,nextT,memT,stackT,outT]
 case inr.inr.inr.inr.inr.inr.inr.inr.inr.inr.inl =>
  rcases h10 rfl with rfl|rfl<;>simp[M.deed,M.before,M.after,mOf,M.goBack,M.goTo,M.result,M.put,nextT,memT,stackT,outT]
 all_goals simp[M.deed,M.before,M.after,mOf,M.result,M.put,M.store,M.goTo,M.output,M.cell,nextT,memT,stackT,outT]
theorem j1s{k:Nat}{bot:Int}{s:State}{x:Cd.In}(hx:Cd.inB k x=true)(r:Rw):told s (go k bot s x r)=thenT k bot s x r:=by
 unfold go thenT;rw[q6r k bot s x hx];dsimp only;by_cases hi:(needs bot s x).is=true
 ·rw[if_pos hi,if_neg (by rw[hi];decide),Option.bind_some];have hl:(mOf s x (needs bot s x)).labs=[s.pc.l,(needs bot s x).one,(needs bot s x).two,(needs bot s x).three]:=rfl;rw[hl,z3r hx];by_cases h12:x.op=12
  ·rw[if_pos h12,if_pos h12];rfl
  ·rw[if_neg h12,if_neg h12];by_cases hm:r.may [s.pc.l,(needs bot s x).one,(needs bot s x).two,(needs bot s x).three]=false
   ·rw[if_pos hm,if_pos hm];rfl
   ·rw[if_neg hm,if_neg hm];split
    ·exact congrArg (fun t=>(t,0)) (z3r hx _ _ _)
    ·rfl
 ·rw[if_neg hi,if_pos (by simpa using hi)];rfl
theorem told_run{k:Nat}{bot:Int}{rw_:Int→Rw}{s:State}(h:rightB k s=true):told s (run k bot rw_ s)=step k bot rw_ s:=by
 unfold run step;cases hx:s.code[s.pc.v.toNat]? with
 | none=>rfl
 | some x =>
  refine j1s ?_ _;have hm:=List.mem_of_getElem? hx;unfold rightB Cd.rightB at h;simp only[Bool.and_eq_true,List.all_eq_true] at h;exact h.1.1.1.1.2 x hm
end Sp
namespace Sp
open St (State Atom Slot rightB)
structure Fits (op:Int) (m:M):Prop where
 stack:m.st.stack.length≤50
 args:m.args.length≤50
 out:m.st.out.length≤50
 mem:m.st.mem.length≤50
 ab:op=3∨op=4→(-20≤m.a.v∧m.a.v≤20)∧(-20≤m.b.v∧m.b.v≤20)
 cell:op=5∨op=6→m.cellB=true
theorem z7f{k:Nat}{s:State}(h:rightB k s=true):∀ x ∈ s.stack,-20≤x.v∧x.v≤20:=by
 unfold rightB at h;simp only[Bool.and_eq_true,List.all_eq_true] at h;intro x hx;have h1:=h.1.2.2 x hx;unfold St.slotB at h1;simp only[Bool.and_eq_true] at h1;exact of_decide_eq_true h1.1.1
theorem right_len{k:Nat}{s:State}(h:rightB k s=true):s.code.length≤12∧s.mem.length≤6∧s.stack.length≤12∧s.out.length≤8∧0≤s.pc.v∧s.pc.v≤12:=by
 unfold rightB Cd.rightB at h;simp only[Bool.and_eq_true,decide_eq_true_eq] at h;obtain⟨⟨⟨⟨h1,h2⟩,h3⟩,h4⟩,h5⟩:=h;have:=of_decide_eq_true h2.1;exact⟨h1.1,h3.1,h4.1,h5.1,this.1,this.2⟩
theorem needs_ab{k:Nat}{bot:Int}{s:State}{x:Cd.In}(h:rightB k s=true)(hop:x.op=3∨x.op=4)(hi:(needs bot s x).is=true):(-20≤(needs bot s x).a.v∧(needs bot s x).a.v≤20)∧(-20≤(needs bot s x).b.v∧(needs bot s x).b.v≤20):=by
 have hv:=z7f h;have hd:∀ i,-20≤(s.stack.getD i slot0).v∧(s.stack.getD i slot0).v≤20:=fun i=>by
  rw[List.getD_eq_getElem?_getD];cases e:s.stack[i]? with
  | none=>simp[slot0]
  | some y=>exact hv y (List.mem_of_getElem? e)
 unfold needs at hi ⊢;split at hi
 ·rename_i h0
  rw[if_pos h0];have ht:takesN x=2:=by unfold takesN;rcases hop with e|e<;>rw[e]<;>rfl
  rw[ht];have h1:¬x.op=1:=by omega
  have h2:¬(x.op=5∨x.op=6):=by omega
  have h3:¬(x.op=7∨x.op=9):=by omega
  have h4:¬x.op=10:=by omega
  simp only[if_neg h1,if_neg h2,if_neg h3,if_neg h4];exact⟨hd _,hd _⟩
 ·cases hi
theorem needs_cell{bot:Int}{s:State}{x:Cd.In}(hop:x.op=5∨x.op=6)(hi:(needs bot s x).is=true):0≤(needs bot s x).a.v∧(needs bot s x).a.v<(s.mem.length:Int):=by
 have h1:¬x.op=1:=by omega
 unfold needs at hi ⊢;split at hi
 ·rename_i h0
  rw[if_pos h0];have ht:0<takesN x:=by unfold takesN;rcases hop with e|e<;>rw[e]<;>simp[takesT]
  simp only[if_neg h1,if_pos hop,if_pos ht] at hi ⊢;generalize s.stack.getD (s.stack.length-1) slot0=y at hi ⊢;by_cases h2:y.v<0∨(s.mem.length:Int)≤y.v
  ·rw[if_pos h2] at hi;cases hi
  ·rw[if_neg h2];split
   ·show 0≤y.v∧y.v<_;omega
   ·show 0≤y.v∧y.v<_;omega
 ·cases hi
theorem fits_of{k:Nat}{bot:Int}{s:State}{x:Cd.In}{m:M}(h:rightB k s=true)(hx:Cd.inB k x=true)(hm:(start bot s x).need x.op=some m)(res:Int):Fits x.op (m.before res):=by
 rw[q6r k bot s x hx] at hm;split at hm
 ·rename_i hi
  injection hm with hm;subst hm;obtain⟨l1,l2,l3,l4,-,-⟩:=right_len h;refine⟨?_,?_,?_,?_,fun ho=>needs_ab h ho hi,fun ho=>?_⟩
  ·show(s.stack.take _).length≤50;rw[List.length_take];omega
  ·show(if x.op=9 then(s.stack.take _).drop _ else[]).length≤50;split
   ·rw[List.length_drop,List.length_take];omega
   ·simp
  ·show s.out.length≤50;omega
  ·show s.mem.length≤50;omega
  ·exact decide_eq_true (needs_cell ho hi)
 ·cases hm
def InR(k:Nat)(a:Int):Prop:=0≤a∧a<(k:Int)
theorem InR.ite{k:Nat}{c:Prop}[Decidable c]{u v:Int}(hu:InR k u)(hv:InR k v):InR k (if c then u else v):=by
 split
 ·exact hu
 ·exact hv
theorem q8r{k:Nat}{a:Int}(h:St.labB k a=true):InR k a:=by unfold St.labB at h;exact(of_decide_eq_true h:0≤a∧a<(k:Int))
theorem right_labs{k:Nat}{s:State}(h:rightB k s=true):InR k s.pc.l∧(∀ x ∈ s.stack,InR k x.l)∧(∀ x ∈ s.mem,InR k x.l)∧∀ x ∈ s.code,Cd.inB k x=true:=by
 unfold rightB Cd.rightB at h;simp only[Bool.and_eq_true,List.all_eq_true] at h;obtain⟨⟨⟨⟨h1,h2⟩,h3⟩,h4⟩,h5⟩:=h;refine⟨q8r h2.2,fun x hx=>?_,fun x hx=>?_,h1.2⟩
 ·have:=h4.2 x hx;unfold St.slotB at this;simp only[Bool.and_eq_true] at this;exact q8r this.1.2
 ·have:=h3.2 x hx;unfold St.atomB at this;simp only[Bool.and_eq_true] at this;exact q8r this.2
theorem z6y{k:Nat}{s:State}{x:Cd.In}{n:Nd}(hd:∀ i,InR k (s.stack.getD i slot0).l)(hm:∀ i,InR k (s.mem.getD i ⟨0,0⟩).l)(hxl:x.op=1→InR k x.l)(h1:InR k n.one)(h2:InR k n.two)(h3:InR k n.three)(hi:(more s x n).is=true) :
  InR k (more s x n).one∧InR k (more s x n).two∧InR k (more s x n).three:=by
 unfold more at hi ⊢;by_cases c1:x.op=1
 ·rw[if_pos c1];exact⟨hxl c1,h2,h3⟩
 ·rw[if_neg c1] at hi ⊢;by_cases c2:x.op=5∨x.op=6
  ·rw[if_pos c2] at hi ⊢;by_cases c3:n.a.v<0∨(s.mem.length:Int)≤n.a.v
   ·rw[if_pos c3] at hi;cases hi
   ·rw[if_neg c3];split
    ·exact⟨h1,hm _,h3⟩
    ·exact⟨h1,h2,hm _⟩
  ·rw[if_neg c2] at hi ⊢;by_cases c4:x.op=7∨x.op=9
   ·rw[if_pos c4] at hi ⊢;by_cases c5:n.a.v<0∨12<n.a.v
    ·rw[if_pos c5] at hi;cases hi
    ·rw[if_neg c5] at hi ⊢;split
     ·exact⟨h1,h2,h3⟩
     ·rename_i c6;rw[if_neg c6] at hi;cases hi
   ·rw[if_neg c4] at hi ⊢;by_cases c7:x.op=10
    ·rw[if_pos c7] at hi ⊢;cases hf:frameAt s.stack n.below with
     | none=>rw[hf] at hi;cases hi
     | some i=>exact⟨h1,hd i,h3⟩
    ·rw[if_neg c7];exact⟨h1,h2,h3⟩
theorem needs_labs{k : Nat}{bot : Int}{s : State}{x : Cd.In}(h : rightB k s = true)(hx : Cd.inB k x = true)(hb : InR k bot)(hi : (needs bot s x).is = true) : InR k (needs bot s x).one ∧ InR k (needs bot s x).two ∧ InR k (needs bot s x).three := by
  obtain ⟨-, h1, h2, -⟩ := right_labs h;have h0 : InR k 0 := ⟨Int.le_refl 0, by have := hb.1; have := hb.2; omega⟩;have hd : ∀ i, InR k (s.stack.getD i slot0).l := fun i => by
    rw [List.getD_eq_getElem?_getD];cases e : s.stack[i]? with
    | none => exact h0
    | some y => exact h1 y (List.mem_of_getElem? e)
  have hm : ∀ i, InR k (s.mem.getD i ⟨0, 0⟩).l := fun i => by
    rw [List.getD_eq_getElem?_getD];cases e : s.mem[i]? with
    | none => exact h0
    | some y => exact h2 y (List.mem_of_getElem? e)
  have hl : ∀ (c : Prop) [Decidable c] (i : Nat), InR k (if c then s.stack.getD i slot0 else slot0).l := fun c _ i => by
    split
    · exact hd i
    · exact h0
  have hxl : x.op = 1 → InR k x.l := fun e => by
    unfold Cd.inB at hx;rw [if_pos e] at hx;have := of_decide_eq_true hx;exact ⟨this.2.2.1, this.2.2.2⟩
  by_cases ha : atomsTo s.stack 0 (takesN x) = true
  · have e : needs bot s x = more s x ⟨true, if 0 < takesN x then s.stack.getD (s.stack.length - 1) slot0 else slot0, if 1 < takesN x then s.stack.getD (s.stack.length - 2) slot0 else slot0, slot0,
        if 0 < takesN x then (if 0 < takesN x then s.stack.getD (s.stack.length - 1) slot0 else slot0).l else bot, if 1 < takesN x then (if 1 < takesN x then s.stack.getD (s.stack.length - 2) slot0 else slot0).l else bot, bot, s.stack.length - takesN x⟩ := by
      unfold needs;rw [if_pos ha];rfl
    rw [e] at hi ⊢;exact z6y hd hm hxl ((hl _ _).ite hb) ((hl _ _).ite hb) hb hi
  · rw [needs_not (by simpa using ha)] at hi
    cases hi
theorem labs_in{k:Nat}{bot:Int}{s:State}{x:Cd.In}{m:M}(h:rightB k s=true)(hx:Cd.inB k x=true)(hb:InR k bot)(hm:(start bot s x).need x.op=some m):∀ a ∈ m.labs,InR k a:=by
 rw[q6r k bot s x hx] at hm;split at hm
 ·rename_i hi
  injection hm with hm;subst hm;obtain⟨h1,h2,h3⟩:=needs_labs h hx hb hi;intro a ha;unfold M.labs at ha;simp only[List.mem_cons,List.not_mem_nil,or_false] at ha;rcases ha with rfl|rfl|rfl|rfl
  ·exact(right_labs h).1
  ·exact h1
  ·exact h2
  ·exact h3
 ·cases hm
theorem need_st{k:Nat}{bot:Int}{s:State}{x:Cd.In}{m:M}(hx:Cd.inB k x=true)(hm:(start bot s x).need x.op=some m):m.ins=x∧m.st.pc=s.pc∧m.st.code=s.code∧m.st.mem=s.mem∧m.st.out=s.out:=by
 rw[q6r k bot s x hx] at hm;split at hm
 ·injection hm with hm;subst hm;exact⟨rfl,rfl,rfl,rfl,rfl⟩
 ·cases hm
end Sp
namespace Sp
open St (State Atom Slot rightB)
structure Len (m m':M):Prop where
 code:m'.st.code=m.st.code
 mem:m'.st.mem.length=m.st.mem.length
 stack:m'.st.stack.length≤m.st.stack.length+m.args.length+1
 out:m'.st.out.length≤m.st.out.length+1
theorem Len.same(m:M):Len m m:=⟨rfl,rfl,by omega,by omega⟩
theorem Len.result(m:M)(v:Int):Len m (m.result v):=⟨rfl,rfl,by show(m.st.stack++_).length≤_;rw[List.length_append,List.length_singleton];omega,by show m.st.out.length≤_;omega⟩
theorem Len.goTo{m m':M}(h:Len m m')(v:Int):Len m (m'.goTo v):=⟨h.code,h.mem,h.stack,h.out⟩
theorem deed_len(m:M)(op:Int):Len m (m.deed op):=by
 unfold M.deed;split
 ·exact .result _ _
 split
 ·exact .result _ _
 split
 ·exact .result _ _
 split
 ·exact .result _ _
 split
 ·exact⟨rfl,by show(m.st.mem.set _ _).length=_;rw[List.length_set],by show m.st.stack.length≤_;omega,by show m.st.out.length≤_;omega⟩
 split
 ·exact(Len.same m).goTo _
 split
 ·unfold M.branch;split
  ·exact(Len.same m).goTo _
  ·exact .same m
 split
 ·refine⟨rfl,rfl,?_,by show m.st.out.length≤_;omega⟩;show((m.st.stack++[_])++m.args).length≤_;rw[List.length_append,List.length_append,List.length_singleton];omega
 split
 ·unfold M.goBack;split
  ·exact(Len.result m _).goTo _
  ·exact(Len.same m).goTo _
 split
 ·refine⟨rfl,rfl,by show m.st.stack.length≤_;omega,?_⟩;show(m.st.out++[_]).length≤_;rw[List.length_append,List.length_singleton];omega
 ·exact .same m
end Sp
end Go.Proofs.YtjobifclmcdjcaaGreatDoor
