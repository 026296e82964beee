import Derived.Lib.Strings
import Derived.Lib.Join
import Derived.Test.YtjobifclmcdjcaaGreatDoorQZBase
set_option maxHeartbeats 64000000
set_option maxRecDepth 100000
namespace Go.Proofs.YtjobifclmcdjcaaGreatDoor
namespace Lx
def blank(c:UInt8):Bool:=c==9 || c==10 || c==32
def inLine(c:UInt8):Bool:=c != 10
def letter(c:UInt8):Bool:=decide (97≤c)&&decide (c≤122)
def digit(c:UInt8):Bool:=decide (48≤c)&&decide (c≤57)
def run(p:UInt8→Bool)(r:List UInt8):Nat:=(r.takeWhile p).length
def comment:List UInt8→Nat
 | []=>0
 | c :: r=>if c=35 then 1+run inLine r else 0
def marks:List UInt8:=[40,41,91,93,59,58,44,60,62,64,45,61]
def mark:List UInt8→Nat
 | []=>0
 | c :: r=>if c=60∧r.head? = some 61 then 2 else if marks.contains c then 1 else 0
theorem mark_cons(c:UInt8)(r:List UInt8):mark (c :: r)=if c=60∧r.head? = some 61 then 2 else if marks.contains c then 1 else 0:=rfl
theorem comment_cons(c:UInt8)(r:List UInt8):comment (c :: r)=if c=35 then 1+run inLine r else 0:=rfl
def first(r:List UInt8):Int×Nat :=
 if 0<run blank r then(-1,run blank r)
 else if 0<comment r then(-1,comment r)
 else if 0<run letter r then(1,run letter r)
 else if 0<run digit r then(2,run digit r)
 else if 0<mark r then(3,mark r) else(-1,0)
structure Tk where
 kind:Int
 text:ByteArray
 pos:Int
def pack(l:List UInt8):ByteArray:=⟨l.toArray⟩
theorem q1u(l:List UInt8):(pack l).data.toList=l:=rfl
theorem q3r:ByteArray.empty.data.toList=[]:=rfl
def toks : Nat → List UInt8 → Nat → List Tk × Nat
  | 0, _, k => ([], k)
  | n + 1, r, k =>
    if r = [] then ([], k)
    else if (first r).2 = 0 then ([], k)
    else (if (first r).1 = -1 then (toks n (r.drop (first r).2) (k + (first r).2)).1
          else ⟨(first r).1, pack (r.take (first r).2), k⟩ :: (toks n (r.drop (first r).2) (k + (first r).2)).1,
          (toks n (r.drop (first r).2) (k + (first r).2)).2)
theorem toks_end(n k:Nat):toks n [] k=([],k):=by cases n<;>rfl
theorem toks_bad{n k:Nat}{r:List UInt8}(h:(first r).2=0):toks n r k=([],k):=by
 cases n with
 | zero=>rfl
 | succ n =>
  unfold toks;by_cases hr:r=[]
  ·rw[if_pos hr]
  ·rw[if_neg hr,if_pos h]
theorem toks_skip{n k:Nat}{r:List UInt8}(hr:r≠[])(h:(first r).2≠0)(h1:(first r).1 = -1):toks (n+1) r k=toks n (r.drop (first r).2) (k+(first r).2):=by
 simp only[toks];rw[if_neg hr,if_neg h,if_pos h1]
theorem toks_take{n k:Nat}{r:List UInt8}(hr:r≠[])(h:(first r).2≠0)(h1:(first r).1≠-1):toks (n+1) r k=(⟨(first r).1,pack (r.take (first r).2),k⟩ :: (toks n (r.drop (first r).2) (k+(first r).2)).1,(toks n (r.drop (first r).2) (k+(first r).2)).2):=by
 simp only[toks];rw[if_neg hr,if_neg h,if_neg h1]
theorem run_le(p:UInt8→Bool)(r:List UInt8):run p r≤r.length:=(List.takeWhile_prefix p).length_le
theorem z4k(r:List UInt8):comment r≤r.length:=by
 cases r with
 | nil=>simp[comment]
 | cons c r =>
  simp only[comment,List.length_cons];have:=run_le inLine r;split<;>omega
theorem j09(r:List UInt8):mark r≤r.length:=by
 rcases r with _|⟨c,r⟩
 ·exact Nat.le_refl _
 ·rw[mark_cons];by_cases h:c=60∧r.head? = some 61
  ·rw[if_pos h];rcases r with _|⟨d,r⟩
   ·simp at h
   ·simp
  ·rw[if_neg h];by_cases h2:marks.contains c=true
   ·rw[if_pos h2];simp
   ·rw[if_neg h2];simp
theorem first_le(r:List UInt8):(first r).2≤r.length:=by
 unfold first
 repeat' split
 ·exact run_le _ _
 ·exact z4k _
 ·exact run_le _ _
 ·exact run_le _ _
 ·exact j09 _
 ·simp
def lex(s:List UInt8):List Tk×Nat×Nat :=
 if 2000<s.length then([],0,8)
 else if(toks s.length s 0).2<s.length then([],(toks s.length s 0).2,4)
 else if 200<(toks s.length s 0).1.length+1 then([],0,8)
 else((toks s.length s 0).1++[⟨0,ByteArray.empty,((toks s.length s 0).2:Nat)⟩],0,0)
end Lx
namespace Rl
open Lx (Tk)
structure St where
 pos:Nat
 deep:Nat
 out:List Int
abbrev Res:=St×Nat
abbrev wTrue:ByteArray:={ data:=#[116,114,117,101] }
abbrev wFalse:ByteArray:={ data:=#[102,97,108,115,101] }
abbrev wAnd:ByteArray:={ data:=#[97,110,100] }
abbrev wOr:ByteArray:={ data:=#[111,114] }
abbrev wFlows:ByteArray:={ data:=#[60,61] }
abbrev wJoin:ByteArray:={ data:=#[106,111,105,110] }
abbrev wMeet:ByteArray:={ data:=#[109,101,101,116] }
abbrev wOpen:ByteArray:={ data:=#[40] }
abbrev wShut:ByteArray:={ data:=#[41] }
abbrev wOpenL:ByteArray:={ data:=#[91] }
abbrev wShutL:ByteArray:={ data:=#[93] }
def table : List (ByteArray × Int) :=
  [(wTrue, 1), (wFalse, 2), (wAnd, 3), (wOr, 4), (wFlows, 5), ({ data := #[98, 111, 116] }, 6), ({ data := #[116, 111, 112] }, 7), ({ data := #[112, 99] }, 8),
   ({ data := #[111, 110, 101] }, 9), ({ data := #[116, 119, 111] }, 10), ({ data := #[116, 104, 114, 101, 101] }, 11), (wJoin, 12), (wMeet, 13)]
def look(s:ByteArray):List (ByteArray×Int)→Int
 | []=>0
 | (k,n) :: r=>if k=s then n else look s r
def opOf(s:ByteArray):Int:=look s table
theorem q68(s:ByteArray):∀ l:List (ByteArray×Int),(∀ x ∈ l,1≤x.2∧x.2≤13)→0≤look s l∧look s l≤13
 | [],_=>⟨Int.le_refl _,show(0:Int)≤13 by decide⟩
 | (k,n) :: r,h=>by
  unfold look
  split
  ·have:=h (k,n) (.head _);exact⟨by omega,this.2⟩
  ·exact q68 s r fun x hx=>h x (.tail _ hx)
theorem opOf_bounds(s:ByteArray):0≤opOf s∧opOf s≤13:=q68 s table (by decide)
theorem op_true:opOf wTrue=1:=by decide
theorem op_false:opOf wFalse=2:=by decide
theorem j13:opOf wAnd=3:=by decide
theorem j2c:opOf wOr=4:=by decide
theorem op_flows:opOf wFlows=5:=by decide
theorem j1j:opOf wJoin=12:=by decide
theorem j1k:opOf wMeet=13:=by decide
def isN(l:List Tk)(k:Nat)(w:ByteArray):Bool :=
 match l[k]? with
 | some t=>decide ((t.kind=1∨t.kind=3)∧t.text=w)
 | none=>false
def adv(s:St):St:={ s with pos:=s.pos+1 }
def put(op:Int)(s:St):Res:=if s.out.length=40 then(s,8) else({ s with out:=s.out++[op] },0)
def loop(l : List Tk)(more : St → Res)(w : ByteArray) : Nat → St → Res
  | 0, s => (s, 0)
  | n + 1, s => if isN l s.pos w = true then
      (if (more (adv s)).2 = 0 then
        (if (put (opOf w) (more (adv s)).1).2 = 0 then loop l more w n (put (opOf w) (more (adv s)).1).1 else put (opOf w) (more (adv s)).1)
       else more (adv s))
    else (s, 0)
def rows(l:List Tk)(part:St→Res):List ByteArray→St→Res
 | [],s=>part s
 | w :: ws,s=>if(rows l part ws s).2=0 then loop l (rows l part ws) w l.length (rows l part ws s).1 else rows l part ws s
def into(s:St):St:={ s with pos:=s.pos+1,deep:=s.deep+1 }
def outof(s:St):St:={ s with pos:=s.pos+1,deep:=s.deep-1 }
def inside(l:List Tk)(part:St→Res)(fin:ByteArray)(s:St):Res :=
 if s.deep=12 then(s,5)
 else if(part (into s)).2=0 then
  (if isN l (part (into s)).1.pos fin=true then(outof (part (into s)).1,0) else((part (into s)).1,4))
 else part (into s)
def word(l:List Tk)(k:Nat):Int :=
 match l[k]? with
 | some t=>if t.kind=1∧6≤opOf t.text∧opOf t.text≤11 then opOf t.text else 0
 | none=>0
def atom(l:List Tk)(lab:St→Res)(s:St):Res :=
 if isN l s.pos wOpenL=true then inside l lab wShutL s
 else if word l s.pos=0 then(s,4) else put (word l s.pos) (adv s)
def label(l:List Tk):Nat→St→Res
 | 0,s=>(s,5)
 | d+1,s=>rows l (atom l (label l d)) [wJoin,wMeet] s
def flow(l : List Tk)(lab : St → Res)(s : St) : Res :=
  if (lab s).2 = 0 then
    (if isN l (lab s).1.pos wFlows = true then
      (if (lab (adv (lab s).1)).2 = 0 then put 5 (lab (adv (lab s).1)).1 else lab (adv (lab s).1))
     else ((lab s).1, 4))
  else lab s
def prim(l:List Tk)(cnd lab:St→Res)(s:St):Res :=
 if isN l s.pos wTrue=true then put 1 (adv s)
 else if isN l s.pos wFalse=true then put 2 (adv s)
 else if isN l s.pos wOpen=true then inside l cnd wShut s
 else flow l lab s
def cond(l:List Tk):Nat→St→Res
 | 0,s=>(s,5)
 | d+1,s=>rows l (prim l (cond l d) (label l (d+1))) [wOr,wAnd] s
def read(l:List Tk)(lab:Bool)(i:Nat):Res:=if lab then label l 13 ⟨i,0,[]⟩ else cond l 13 ⟨i,0,[]⟩
def Ends(l:List Tk):Prop:=∀ k t,l[k]? = some t→(t.kind=1∨t.kind=3)→k+1<l.length
theorem ends_of{l:List Tk}{t:Tk}(h:l[l.length-1]? = some t)(h0:t.kind=0):Ends l:=fun k u hu hk=>by
 have h1:=(List.getElem?_eq_some_iff.1 hu).1
 by_cases hk1:k=l.length-1
 ·subst hk1
  rw[h] at hu
  injection hu with hu
  subst hu
  omega
 ·omega
theorem z8p{l:List Tk}{k:Nat}{w:ByteArray}(h:isN l k w=true):∃ t,l[k]? = some t∧(t.kind=1∨t.kind=3)∧t.text=w:=by
 unfold isN at h;split at h
 ·rename_i t ht
  exact⟨t,ht,(of_decide_eq_true h).1,(of_decide_eq_true h).2⟩
 ·cases h
theorem isN_lt{l:List Tk}{k:Nat}{w:ByteArray}(he:Ends l)(h:isN l k w=true):k+1<l.length:=by
 obtain⟨t,ht,hk,_⟩:=z8p h;exact he k t ht hk
theorem q9o{l:List Tk}{k:Nat}(h:word l k≠0):∃ t,l[k]? = some t∧t.kind=1∧word l k=opOf t.text∧6≤opOf t.text∧opOf t.text≤11:=by
 unfold word at h ⊢;split at h
 ·rename_i t ht
  split at h
  ·rename_i h1
   simp only[ht,if_pos h1];exact⟨t,rfl,h1.1,rfl,h1.2⟩
  ·exact absurd rfl h
 ·exact absurd rfl h
theorem word_lt{l:List Tk}{k:Nat}(he:Ends l)(h:word l k≠0):k+1<l.length:=by
 obtain⟨t,ht,hk,_⟩:=q9o h;exact he k t ht (.inl hk)
def two(pile:List Bool)(take put:Bool):Option (List Bool) :=
 if 2≤pile.length∧pile[pile.length-2]? = some take∧pile[pile.length-1]? = some take then some (pile.take (pile.length-2)++[put]) else none
def step(pile:List Bool)(n:Int):Option (List Bool) :=
 if n=1∨n=2 then some (pile++[false])
 else if 6≤n∧n≤11 then some (pile++[true])
 else if n=3∨n=4 then two pile false false
 else if n=5 then two pile true false
 else if n=12∨n=13 then two pile true true
 else none
def pileOf:List Bool→List Int→Option (List Bool)
 | p,[]=>some p
 | p,n :: r=>(step p n).bind fun q=>pileOf q r
def right(rule:List Int)(lab:Bool):Bool:=decide (rule.length≤40∧pileOf [] rule=some [lab])
theorem q3o:∀(a b:List Int) (p:List Bool),pileOf p (a++b)=(pileOf p a).bind fun q=>pileOf q b
 | [],b,p=>rfl
 | n :: a,b,p=>by
  simp only[List.cons_append,pileOf]
  cases step p n with
  | none=>rfl
  | some q=>exact q3o a b q
theorem j0e(p:List Bool)(a b:Bool):two (p++[a]++[a]) a b=some (p++[b]):=by
 unfold two;have e0:(p++[a]++[a]).length=p.length+2:=by simp
 rw[e0,if_pos ⟨by omega,by simp,by simp⟩]
 congr 1
 rw[Nat.add_sub_cancel,List.append_assoc,List.take_left]
def Seg(x:List Int)(sort:Bool):Prop:=∀ p,pileOf p x=some (p++[sort])
theorem q80{n:Int}{b:Bool}(h:∀ p,step p n=some (p++[b])):Seg [n] b:=fun p=>by
 simp only[pileOf,h p,Option.bind_some]
theorem z31{x y:List Int}{n:Int}{a b:Bool}(hx:Seg x a)(hy:Seg y a)(h:∀ p,step p n=two p a b):Seg (x++y++[n]) b:=fun p=>by
 rw[q3o,q3o,hx p]
 simp only[Option.bind_some,hy (p++[a])]
 simp only[pileOf,h,j0e,Option.bind_some]
theorem z9s{x:List Int}{b:Bool}(h:Seg x b)(hl:x.length≤40):right x b=true∧right x (!b)=false:=by
 have h0:=h [];unfold right;rw[h0];refine⟨decide_eq_true ⟨hl,rfl⟩,decide_eq_false ?_⟩;rintro⟨_,h1⟩;injection h1 with h1;simp at h1
def Good(l:List Tk)(o:Nat)(sort:Bool)(p:St→Res):Prop :=
 ∀ s:St,s.pos<l.length→s.deep=o→s.out.length≤40 →
  (p s).1.pos<l.length∧(p s).1.out.length≤40∧((p s).2=0→(p s).1.deep=o∧s.pos<(p s).1.pos∧∃ x,(p s).1.out=s.out++x∧Seg x sort)
theorem put_good(op:Int)(s:St)(h:s.out.length≤40):(put op s).1.pos=s.pos∧(put op s).1.deep=s.deep∧(put op s).1.out.length≤40∧((put op s).2=0→(put op s).1.out=s.out++[op]):=by
 unfold put;split
 ·exact⟨rfl,rfl,h,fun e=>by cases e⟩
 ·exact⟨rfl,rfl,by simp;omega,fun _=>rfl⟩
theorem q9g{l:List Tk}(he:Ends l){o:Nat}{sort:Bool}{more:St→Res}(hm:Good l o sort more)(w:ByteArray)(hw:∀ p,step p (opOf w)=two p sort sort) :
  ∀(n:Nat) (s:St) (y x:List Int),s.pos<l.length→s.deep=o→s.out.length≤40→s.out=y++x→Seg x sort →
   (loop l more w n s).1.pos<l.length∧(loop l more w n s).1.out.length≤40∧((loop l more w n s).2=0→(loop l more w n s).1.deep=o∧s.pos≤(loop l more w n s).1.pos∧∃ z,(loop l more w n s).1.out=y++z∧Seg z sort)
 | 0,s,y,x,h1,h2,h3,h4,h5=>⟨h1,h3,fun _=>⟨h2,Nat.le_refl _,x,h4,h5⟩⟩
 | n+1,s,y,x,h1,h2,h3,h4,h5=>by
  by_cases hn:isN l s.pos w=true
  ·obtain⟨a1,a2,a3⟩:=hm (adv s) (by have:=isN_lt he hn;exact this) h2 h3
   by_cases hr:(more (adv s)).2=0
   ·obtain⟨b1,b2,z,b3,b4⟩:=a3 hr
    obtain⟨c1,c2,c3,c4⟩:=put_good (opOf w) _ a2
    by_cases hq:(put (opOf w) (more (adv s)).1).2=0
    ·have e:loop l more w (n+1) s=loop l more w n (put (opOf w) (more (adv s)).1).1:=by rw[loop,if_pos hn,if_pos hr,if_pos hq]
     rw[e]
     obtain⟨d1,d2,d3⟩:=q9g he hm w hw n (put (opOf w) (more (adv s)).1).1 y (x++z++[opOf w]) (by rw[c1];exact a1) (by rw[c2];exact b1) c3 (by rw[c4 hq,b3,show(adv s).out=s.out from rfl,h4];simp) (z31 h5 b4 hw)
     refine⟨d1,d2,fun h=>?_⟩
     obtain⟨f1,f2,f3⟩:=d3 h
     have b2':s.pos+1<(more (adv s)).1.pos:=b2
     exact⟨f1,by omega,f3⟩
    ·have e:loop l more w (n+1) s=put (opOf w) (more (adv s)).1:=by rw[loop,if_pos hn,if_pos hr,if_neg hq]
     rw[e]
     exact⟨by rw[c1];exact a1,c3,fun h=>absurd h hq⟩
   ·have e:loop l more w (n+1) s=more (adv s):=by rw[loop,if_pos hn,if_neg hr]
    rw[e]
    exact⟨a1,a2,fun h=>absurd h hr⟩
  ·have e:loop l more w (n+1) s=(s,0):=by rw[loop,if_neg hn]
   rw[e]
   exact⟨h1,h3,fun _=>⟨h2,Nat.le_refl _,x,h4,h5⟩⟩
theorem rows_good{l:List Tk}(he:Ends l){o:Nat}{sort:Bool}{part:St→Res}(hp:Good l o sort part):∀ ws:List ByteArray,(∀ w ∈ ws,∀ p,step p (opOf w)=two p sort sort)→Good l o sort (rows l part ws)
 | [],_=>hp
 | w :: ws,hw=>fun s h1 h2 h3=>by
  have hm:=rows_good he hp ws (fun v hv=>hw v (.tail _ hv))
  obtain⟨a1,a2,a3⟩:=hm s h1 h2 h3
  by_cases hr:(rows l part ws s).2=0
  ·obtain⟨b1,b2,x,b3,b4⟩:=a3 hr
   have e:rows l part (w :: ws) s=loop l (rows l part ws) w l.length (rows l part ws s).1:=by rw[rows,if_pos hr]
   rw[e]
   obtain⟨d1,d2,d3⟩:=q9g he hm w (hw w (.head _)) l.length _ s.out x a1 b1 a2 b3 b4
   refine⟨d1,d2,fun h=>?_⟩
   obtain⟨f1,f2,f3⟩:=d3 h
   exact⟨f1,by omega,f3⟩
  ·have e:rows l part (w :: ws) s=rows l part ws s:=by rw[rows,if_neg hr]
   rw[e]
   exact⟨a1,a2,fun h=>absurd h hr⟩
theorem q65{l:List Tk}(he:Ends l){o:Nat}{sort:Bool}{part:St→Res}(hp:o<12→Good l (o+1) sort part)(w fin:ByteArray)(s:St)(h0:isN l s.pos w=true)(h2:s.deep=o)(h4:o≤12)(h3:s.out.length≤40) :
  (inside l part fin s).1.pos<l.length∧(inside l part fin s).1.out.length≤40∧((inside l part fin s).2=0→(inside l part fin s).1.deep=o∧s.pos<(inside l part fin s).1.pos∧∃ x,(inside l part fin s).1.out=s.out++x∧Seg x sort):=by
 have h1:=isN_lt he h0;by_cases hd:s.deep=12
 ·have e:inside l part fin s=(s,5):=by rw[inside,if_pos hd]
  rw[e];exact⟨by show s.pos<_;omega,h3,fun h=>by cases h⟩
 ·obtain⟨a1,a2,a3⟩:=hp (by omega) (into s) h1 (by show s.deep+1=_;omega) h3;by_cases hr:(part (into s)).2=0
  ·obtain⟨b1,b2,x,b3,b4⟩:=a3 hr;have b2':s.pos+1<(part (into s)).1.pos:=b2;by_cases hn:isN l (part (into s)).1.pos fin=true
   ·have e:inside l part fin s=(outof (part (into s)).1,0):=by rw[inside,if_neg hd,if_pos hr,if_pos hn]
    rw[e];exact⟨isN_lt he hn,a2,fun _=>⟨by show(part (into s)).1.deep-1=o;omega,by show s.pos<(part (into s)).1.pos+1;omega,x,b3,b4⟩⟩
   ·have e:inside l part fin s=((part (into s)).1,4):=by rw[inside,if_neg hd,if_pos hr,if_neg hn]
    rw[e];exact⟨a1,a2,fun h=>by cases h⟩
  ·have e:inside l part fin s=part (into s):=by rw[inside,if_neg hd,if_neg hr]
   rw[e];exact⟨a1,a2,fun h=>absurd h hr⟩
theorem atom_good{l:List Tk}(he:Ends l){o:Nat}(ho:o≤12){lab:St→Res}(hp:o<12→Good l (o+1) true lab):Good l o true (atom l lab):=fun s h1 h2 h3=>by
 by_cases hn:isN l s.pos wOpenL=true
 ·have e:atom l lab s=inside l lab wShutL s:=by rw[atom,if_pos hn]
  rw[e]
  exact q65 he hp _ _ s hn h2 ho h3
 ·by_cases hw:word l s.pos=0
  ·have e:atom l lab s=(s,4):=by rw[atom,if_neg hn,if_pos hw]
   rw[e]
   exact⟨h1,h3,fun h=>by cases h⟩
  ·have e:atom l lab s=put (word l s.pos) (adv s):=by rw[atom,if_neg hn,if_neg hw]
   rw[e]
   obtain⟨c1,c2,c3,c4⟩:=put_good (word l s.pos) (adv s) h3
   obtain⟨t,_,_,t3,t4,t5⟩:=q9o hw
   refine⟨by rw[c1];exact word_lt he hw,c3,fun h=>⟨by rw[c2];exact h2,by rw[c1];exact Nat.lt_succ_self _,[word l s.pos],c4 h,q80 fun p=>?_⟩⟩
   unfold step
   rw[t3,if_neg (by omega),if_pos ⟨t4,t5⟩]
theorem q6k(p:List Bool):step p (opOf wJoin)=two p true true:=by rw[j1j];rfl
theorem q6l(p:List Bool):step p (opOf wMeet)=two p true true:=by rw[j1k];rfl
theorem q81(p:List Bool):step p (opOf wOr)=two p false false:=by rw[j2c];rfl
theorem q7v(p:List Bool):step p (opOf wAnd)=two p false false:=by rw[j13];rfl
theorem label_good{l:List Tk}(he:Ends l):∀(d o:Nat),o+d=12→Good l o true (label l (d+1))
 | 0,o,h=>rows_good he (atom_good he (by omega) fun h2=>absurd h2 (by omega)) _ (by
   intro w hw p
   simp only[List.mem_cons,List.not_mem_nil,or_false] at hw
   rcases hw with rfl|rfl
   ·exact q6k p
   ·exact q6l p)
 | d+1,o,h=>rows_good he (atom_good he (by omega) fun _=>label_good he d (o+1) (by omega)) _ (by
   intro w hw p
   simp only[List.mem_cons,List.not_mem_nil,or_false] at hw
   rcases hw with rfl|rfl
   ·exact q6k p
   ·exact q6l p)
theorem z6i{l:List Tk}(he:Ends l){o:Nat}{lab:St→Res}(hp:Good l o true lab):Good l o false (flow l lab):=fun s h1 h2 h3=>by
 obtain⟨a1,a2,a3⟩:=hp s h1 h2 h3
 by_cases hr:(lab s).2=0
 ·obtain⟨b1,b2,x,b3,b4⟩:=a3 hr
  by_cases hn:isN l (lab s).1.pos wFlows=true
  ·obtain⟨c1,c2,c3⟩:=hp (adv (lab s).1) (isN_lt he hn) b1 a2
   by_cases hq:(lab (adv (lab s).1)).2=0
   ·obtain⟨d1,d2,y,d3,d4⟩:=c3 hq
    have d2':(lab s).1.pos+1<(lab (adv (lab s).1)).1.pos:=d2
    have e:flow l lab s=put 5 (lab (adv (lab s).1)).1:=by rw[flow,if_pos hr,if_pos hn,if_pos hq]
    rw[e]
    obtain⟨f1,f2,f3,f4⟩:=put_good 5 _ c2
    refine⟨by rw[f1];exact c1,f3,fun h=>⟨by rw[f2];exact d1,by rw[f1];omega,x++y++[5],?_,z31 b4 d4 fun p=>rfl⟩⟩
    rw[f4 h,d3,show(adv (lab s).1).out=(lab s).1.out from rfl,b3]
    simp
   ·have e:flow l lab s=lab (adv (lab s).1):=by rw[flow,if_pos hr,if_pos hn,if_neg hq]
    rw[e]
    exact⟨c1,c2,fun h=>absurd h hq⟩
  ·have e:flow l lab s=((lab s).1,4):=by rw[flow,if_pos hr,if_neg hn]
   rw[e]
   exact⟨a1,a2,fun h=>by cases h⟩
 ·have e:flow l lab s=lab s:=by rw[flow,if_neg hr]
  rw[e]
  exact⟨a1,a2,fun h=>absurd h hr⟩
theorem prim_good{l:List Tk}(he:Ends l){o:Nat}(ho:o≤12){cnd lab:St→Res}(hc:o<12→Good l (o+1) false cnd)(hp:Good l o true lab):Good l o false (prim l cnd lab):=fun s h1 h2 h3=>by
 by_cases t1:isN l s.pos wTrue=true
 ·have e:prim l cnd lab s=put 1 (adv s):=by rw[prim,if_pos t1]
  rw[e]
  obtain⟨f1,f2,f3,f4⟩:=put_good 1 (adv s) h3
  exact⟨by rw[f1];exact isN_lt he t1,f3,fun h=>⟨by rw[f2];exact h2,by rw[f1];exact Nat.lt_succ_self _,[1],f4 h,q80 fun p=>rfl⟩⟩
 ·by_cases t2:isN l s.pos wFalse=true
  ·have e:prim l cnd lab s=put 2 (adv s):=by rw[prim,if_neg t1,if_pos t2]
   rw[e]
   obtain⟨f1,f2,f3,f4⟩:=put_good 2 (adv s) h3
   exact⟨by rw[f1];exact isN_lt he t2,f3,fun h=>⟨by rw[f2];exact h2,by rw[f1];exact Nat.lt_succ_self _,[2],f4 h,q80 fun p=>rfl⟩⟩
  ·by_cases t3:isN l s.pos wOpen=true
   ·have e:prim l cnd lab s=inside l cnd wShut s:=by rw[prim,if_neg t1,if_neg t2,if_pos t3]
    rw[e]
    exact q65 he hc _ _ s t3 h2 ho h3
   ·have e:prim l cnd lab s=flow l lab s:=by rw[prim,if_neg t1,if_neg t2,if_neg t3]
    rw[e]
    exact z6i he hp s h1 h2 h3
theorem cond_good{l:List Tk}(he:Ends l):∀(d o:Nat),o+d=12→Good l o false (cond l (d+1))
 | 0,o,h=>rows_good he (prim_good he (by omega) (fun h2=>absurd h2 (by omega)) (label_good he 0 o h)) _ (by
   intro w hw p
   simp only[List.mem_cons,List.not_mem_nil,or_false] at hw
   rcases hw with rfl|rfl
   ·exact q81 p
   ·exact q7v p)
 | d+1,o,h=>rows_good he (prim_good he (by omega) (fun _=>cond_good he d (o+1) (by omega)) (label_good he (d+1) o h)) _ (by
   intro w hw p
   simp only[List.mem_cons,List.not_mem_nil,or_false] at hw
   rcases hw with rfl|rfl
   ·exact q81 p
   ·exact q7v p)
theorem read_right{l:List Tk}(he:Ends l)(lab:Bool)(i:Nat)(hi:i<l.length)(h:(read l lab i).2=0) :
  right (read l lab i).1.out lab=true∧right (read l lab i).1.out (!lab)=false∧i<(read l lab i).1.pos∧(read l lab i).1.pos<l.length∧(read l lab i).1.out.length≤40:=by
 have hg:∀ {p:St→Res},Good l 0 lab p→(p ⟨i,0,[]⟩).2=0→right (p ⟨i,0,[]⟩).1.out lab=true∧right (p ⟨i,0,[]⟩).1.out (!lab)=false∧i<(p ⟨i,0,[]⟩).1.pos∧(p ⟨i,0,[]⟩).1.pos<l.length∧(p ⟨i,0,[]⟩).1.out.length≤40:=fun hg h=>by
  obtain⟨a1,a2,a3⟩:=hg ⟨i,0,[]⟩ hi rfl (by simp);obtain⟨b1,b2,x,b3,b4⟩:=a3 h;have hx:(_:List Int)=x:=b3.trans (List.nil_append x);obtain⟨r1,r2⟩:=z9s b4 (by rw[←hx];exact a2);rw[hx];exact⟨r1,r2,b2,a1,by rw[←hx];exact a2⟩
 cases lab
 ·exact hg (cond_good he 12 0 rfl) h
 ·exact hg (label_good he 12 0 rfl) h
theorem read_lt{l:List Tk}(he:Ends l)(lab:Bool)(i:Nat)(hi:i<l.length):(read l lab i).1.pos<l.length∧(read l lab i).1.out.length≤40:=by
 cases lab
 ·exact⟨(cond_good he 12 0 rfl ⟨i,0,[]⟩ hi rfl (by simp)).1,(cond_good he 12 0 rfl ⟨i,0,[]⟩ hi rfl (by simp)).2.1⟩
 ·exact⟨(label_good he 12 0 rfl ⟨i,0,[]⟩ hi rfl (by simp)).1,(label_good he 12 0 rfl ⟨i,0,[]⟩ hi rfl (by simp)).2.1⟩
end Rl
namespace Rl
open Lx (Tk)
section
variable {l m:List Tk} {i e:Nat}
theorem word_join:∀ w ∈ [wJoin,wMeet],∀ p,step p (opOf w)=two p true true:=fun w hw p=>by
 simp only[List.mem_cons,List.not_mem_nil,or_false] at hw
 rcases hw with rfl|rfl
 ·exact q6k p
 ·exact q6l p
theorem word_or:∀ w ∈ [wOr,wAnd],∀ p,step p (opOf w)=two p false false:=fun w hw p=>by
 simp only[List.mem_cons,List.not_mem_nil,or_false] at hw
 rcases hw with rfl|rfl
 ·exact q81 p
 ·exact q7v p
end
end Rl
namespace Lx
theorem z1e(p:UInt8→Bool)(c:UInt8)(r:List UInt8):run p (c :: r)=if p c then run p r+1 else 0:=by
 unfold run;rw[List.takeWhile_cons];split<;>simp
theorem run_yes{p:UInt8→Bool}{c:UInt8}(h:p c=true)(r:List UInt8):run p (c :: r)=run p r+1:=by rw[z1e,if_pos h]
theorem run_no{p:UInt8→Bool}{c:UInt8}(h:p c=false)(r:List UInt8):run p (c :: r)=0:=by rw[z1e,if_neg (by rw[h];decide)]
theorem z0l{c:UInt8}(h:letter c=true):blank c=false:=by
 cases hb:blank c
 ·rfl
 ·simp only[blank,Bool.or_eq_true,beq_iff_eq] at hb;rcases hb with(rfl|rfl)|rfl<;>exact absurd h (by decide)
theorem z2c{c:UInt8}(h:digit c=true):blank c=false:=by
 cases hb:blank c
 ·rfl
 ·simp only[blank,Bool.or_eq_true,beq_iff_eq] at hb;rcases hb with(rfl|rfl)|rfl<;>exact absurd h (by decide)
theorem z6t{c:UInt8}(h:letter c=true):c≠35:=by rintro rfl;exact absurd h (by decide)
theorem z8f{c:UInt8}(h:digit c=true):c≠35:=by rintro rfl;exact absurd h (by decide)
theorem z0b{c:UInt8}(h:digit c=true):letter c=false:=by
 simp only[digit,Bool.and_eq_true,decide_eq_true_eq,UInt8.le_iff_toNat_le] at h;cases hl:letter c
 ·rfl
 ·simp only[letter,Bool.and_eq_true,decide_eq_true_eq,UInt8.le_iff_toNat_le] at hl;have h1:(57:UInt8).toNat=57:=rfl;have h2:(97:UInt8).toNat=97:=rfl;omega
theorem z4w{c:UInt8}(h:marks.contains c=true):blank c=false∧c≠35∧letter c=false∧digit c=false:=by
 simp only[marks,List.contains_iff_mem,List.mem_cons,List.not_mem_nil,or_false] at h;rcases h with rfl|rfl|rfl|rfl|rfl|rfl|rfl|rfl|rfl|rfl|rfl|rfl<;>decide
theorem q5w{c:UInt8}(h:letter c=true)(r:List UInt8):first (c :: r)=(1,run letter (c :: r)):=by
 unfold first
 rw[run_no (z0l h),comment_cons,if_neg (z6t h),if_neg (Nat.lt_irrefl 0),if_neg (Nat.lt_irrefl 0),if_pos (by rw[run_yes h];omega)]
theorem q63{c:UInt8}(h:digit c=true)(r:List UInt8):first (c :: r)=(2,run digit (c :: r)):=by
 unfold first
 rw[run_no (z2c h),comment_cons,if_neg (z8f h),run_no (z0b h),if_neg (Nat.lt_irrefl 0),if_neg (Nat.lt_irrefl 0),if_neg (Nat.lt_irrefl 0),if_pos (by rw[run_yes h];omega)]
theorem q41{c:UInt8}(h:marks.contains c=true)(r:List UInt8):first (c :: r)=(3,mark (c :: r)):=by
 obtain⟨h1,h2,h3,h4⟩:=z4w h;unfold first
 rw[run_no h1,comment_cons,if_neg h2,run_no h3,run_no h4,if_neg (Nat.lt_irrefl 0),if_neg (Nat.lt_irrefl 0),if_neg (Nat.lt_irrefl 0),if_neg (Nat.lt_irrefl 0),if_pos];rw[mark_cons,h];split
 ·omega
 ·simp
theorem z4o{c:UInt8}{r:List UInt8}(h:(first (c :: r)).1≠-1):letter c=true∨digit c=true∨marks.contains c=true:=by
 cases h1:letter c
 ·cases h2:digit c
  ·cases h3:marks.contains c
   ·refine absurd ?_ h;have hm:mark (c :: r)=0:=by
     rw[mark_cons,h3,if_neg,if_neg (by decide)];rintro⟨rfl,_⟩;exact absurd h3 (by decide)
    unfold first
    rw[run_no h1,run_no h2,hm,if_neg (Nat.lt_irrefl 0),if_neg (Nat.lt_irrefl 0),if_neg (Nat.lt_irrefl 0)];split
    ·rfl
    ·split<;>rfl
   ·exact .inr (.inr rfl)
  ·exact .inr (.inl rfl)
 ·exact .inl rfl
def Stop(x:List UInt8):Prop:=x=[]∨∃ y,x=32 :: y
theorem z1h{p:UInt8→Bool}{x:List UInt8}(h:Stop x)(hp:p 32=false):∀ l:List UInt8,(∀ c ∈ l,p c=true)→run p (l++x)=l.length
 | [],_=>by
  rcases h with rfl|⟨y,rfl⟩
  ·rfl
  ·exact run_no hp y
 | c :: l,hl=>by
  rw[List.cons_append,run_yes (hl c (by simp)),z1h h hp l (fun d hd=>hl d (by simp[hd])),List.length_cons]
theorem z1l(p:UInt8→Bool)(r:List UInt8):r.take (run p r)=r.takeWhile p:=(List.prefix_iff_eq_take.1 (List.takeWhile_prefix p)).symm
theorem z3k(p:UInt8→Bool):∀ r:List UInt8,∀ c ∈ r.takeWhile p,p c=true
 | [],_,h=>by simp at h
 | d :: r,c,h=>by
  rw[List.takeWhile_cons] at h
  split at h
  ·rcases List.mem_cons.1 h with rfl|h
   ·assumption
   ·exact z3k p r c h
  ·simp at h
def Alone(t:Tk):Prop:=1≤t.kind∧t.kind≤3∧t.text.data.toList≠[]∧∀ x,Stop x→first (t.text.data.toList++x)=(t.kind,t.text.data.toList.length)
theorem q85{p:UInt8→Bool}{kd:Int}(hk:1≤kd∧kd≤3)(hp:p 32=false)(hf:∀ c r,p c=true→first (c :: r)=(kd,run p (c :: r)))(c:UInt8)(r:List UInt8)(hc:p c=true)(k:Int):Alone ⟨kd,pack ((c :: r).take (run p (c :: r))),k⟩:=by
 refine⟨hk.1,hk.2,?_,fun x hx=>?_⟩
 ·rw[q1u,z1l,List.takeWhile_cons,if_pos hc];exact List.cons_ne_nil _ _
 ·have ha:=z3k p (c :: r);rw[q1u,z1l];rw[List.takeWhile_cons,if_pos hc] at ha ⊢;rw[List.cons_append,hf _ _ hc,←List.cons_append,z1h hx hp _ ha]
theorem z1r{c:UInt8}{r:List UInt8}(h:(first (c :: r)).1≠-1)(k:Int):Alone ⟨(first (c :: r)).1,pack ((c :: r).take (first (c :: r)).2),k⟩:=by
 rcases z4o h with h1|h1|h1
 ·rw[q5w h1];exact q85 (by decide) (by decide) (fun c r hc=>q5w hc r) c r h1 k
 ·rw[q63 h1];exact q85 (by decide) (by decide) (fun c r hc=>q63 hc r) c r h1 k
 ·rw[q41 h1];by_cases h2:c=60∧r.head? = some 61
  ·rw[mark_cons,if_pos h2];obtain⟨rfl,h2⟩:=h2;rcases r with _|⟨d,r⟩
   ·simp at h2
   ·simp only[List.head?_cons,Option.some.injEq] at h2;subst h2;refine⟨show(1:Int)≤3 by decide,show(3:Int)≤3 by decide,by simp[q1u],fun x _=>?_⟩;show first (60 :: 61 :: x)=(3,2)
    rw[q41 (by decide),mark_cons,if_pos ⟨rfl,rfl⟩]
  ·rw[mark_cons,if_neg h2,if_pos h1];refine⟨show(1:Int)≤3 by decide,show(3:Int)≤3 by decide,by simp[q1u],fun x hx=>?_⟩;show first (c :: x)=(3,1)
   rw[q41 h1,mark_cons,if_neg,if_pos h1];rintro⟨_,h⟩;rcases hx with rfl|⟨y,rfl⟩<;>simp at h
def Stands(s:List UInt8):Nat→List Tk→Prop
 | _,[]=>True
 | k,t :: l=>∃ p:Nat,t.pos=p∧k≤p∧p+t.text.data.toList.length≤s.length∧Lib.hasPrefix (s.drop p) t.text.data.toList=true∧Stands s (p+t.text.data.toList.length) l
theorem Stands.less{s:List UInt8}{k k':Nat}(h:k≤k'):∀ {l:List Tk},Stands s k' l→Stands s k l
 | [],_=>trivial
 | _ :: _,⟨p,h1,h2,h3⟩=>⟨p,h1,by omega,h3⟩
structure Told (s:List UInt8) (k:Nat) (r:List UInt8) (q:List Tk×Nat):Prop where
 alone:∀ t ∈ q.1,Alone t
 le:q.2≤s.length
 sum:Lib.lens (q.1.map fun t=>t.text.data.toList)≤r.length
 stands:∀ t:Tk,t.pos=s.length→q.2=s.length→t.text=ByteArray.empty→Stands s k (q.1++[t])
theorem q8q(r:List UInt8)(n:Nat):Lib.hasPrefix r (r.take n)=true:=by
 unfold Lib.hasPrefix;rw[List.isPrefixOf_iff_prefix];exact List.take_prefix _ _
theorem toks_told(s:List UInt8):∀(n k:Nat),k≤s.length→Told s k (s.drop k) (toks n (s.drop k) k)
 | 0,k,hk=>⟨by simp[toks],hk,by simp[toks,Lib.lens],fun t h1 h2 h3=>⟨s.length,h1,hk,by rw[h3,q3r];exact Nat.le_refl _,by rw[h3,q3r];rfl,trivial⟩⟩
 | n+1,k,hk=>by
  have hstop:Told s k (s.drop k) ([],k):=⟨by simp,hk,by simp[Lib.lens],fun t h1 h2 h3=>⟨s.length,h1,hk,by rw[h3,q3r];exact Nat.le_refl _,by rw[h3,q3r];rfl,trivial⟩⟩;by_cases hr:s.drop k=[]
  ·rw[hr,toks_end,←hr];exact hstop
  ·by_cases h0:(first (s.drop k)).2=0
   ·rw[toks_bad h0];exact hstop
   ·have hle:=first_le (s.drop k);rw[List.length_drop] at hle;have ih:=toks_told s n (k+(first (s.drop k)).2) (by omega);rw[←List.drop_drop] at ih;have hlen:((s.drop k).drop (first (s.drop k)).2).length=s.length-k-(first (s.drop k)).2:=by rw[List.length_drop,List.length_drop]
    by_cases h1:(first (s.drop k)).1 = -1
    ·rw[toks_skip hr h0 h1];refine⟨ih.alone,ih.le,?_,fun t a b c=>(ih.stands t a b c).less (by omega)⟩;have:=ih.sum;rw[hlen] at this;rw[List.length_drop];omega
    ·rw[toks_take hr h0 h1];have htl:((s.drop k).take (first (s.drop k)).2).length=(first (s.drop k)).2:=by rw[List.length_take,List.length_drop];omega
     refine⟨?_,ih.le,?_,fun t a b c=>?_⟩
     ·intro t ht;rcases List.mem_cons.1 ht with rfl|ht
      ·obtain⟨c,r,e⟩:∃ c r,s.drop k=c :: r:=by
        cases e:s.drop k with
        | nil=>exact absurd e hr
        | cons c r=>exact⟨c,r,rfl⟩
       rw[e] at h1 ⊢;exact z1r h1 _
      ·exact ih.alone t ht
     ·have:=ih.sum;rw[hlen] at this;rw[List.length_drop];simp only[Lib.lens,List.map_cons,List.sum_cons,q1u] at this ⊢;rw[htl];omega
     ·refine⟨k,rfl,Nat.le_refl _,?_,?_,?_⟩
      ·rw[q1u,htl];omega
      ·rw[q1u];exact q8q _ _
      ·rw[q1u,htl];exact ih.stands t a b c
theorem lex_ok{s:List UInt8}{l:List Tk}{a:Nat}(h:lex s=(l,a,0)):∃ ts,l=ts++[⟨0,ByteArray.empty,(s.length:Nat)⟩]∧ts.length≤199∧(∀ t ∈ ts,Alone t)∧Stands s 0 l∧Lib.lens (ts.map fun t=>t.text.data.toList)≤s.length:=by
 unfold lex at h;by_cases h1:2000<s.length
 ·rw[if_pos h1] at h;cases h
 ·rw[if_neg h1] at h;by_cases h2:(toks s.length s 0).2<s.length
  ·rw[if_pos h2] at h;cases h
  ·rw[if_neg h2] at h;by_cases h3:200<(toks s.length s 0).1.length+1
   ·rw[if_pos h3] at h;cases h
   ·rw[if_neg h3] at h;have hT:=toks_told s s.length 0 (Nat.zero_le _);rw[List.drop_zero] at hT;have he:(toks s.length s 0).2=s.length:=by have:=hT.le;omega
    injection h with hl _;rw[he] at hl;subst hl;exact⟨_,rfl,by omega,hT.alone,hT.stands _ rfl he rfl,hT.sum⟩
end Lx
namespace Sh
open Rl (St Res opOf)
inductive Tree
 | leaf (op:Int)
 | node (op:Int) (x y:Tree)
def post:Tree→List Int
 | .leaf op=>[op]
 | .node op x y=>post x++post y++[op]
def Ok:Bool→Tree→Prop
 | b,.leaf op=>(b=true∧6≤op∧op≤11)∨(b=false∧(op=1∨op=2))
 | b,.node op x y=>(b=false∧(op=3∨op=4)∧Ok false x∧Ok false y)∨(b=false∧op=5∧Ok true x∧Ok true y)∨(b=true∧(op=12∨op=13)∧Ok true x∧Ok true y)
theorem post_pos:∀ t:Tree,1≤(post t).length
 | .leaf _=>Nat.le_refl _
 | .node _ x y=>by simp[post];omega
theorem ok_op{b:Bool}{op:Int}{x y:Tree}(h:Ok b (.node op x y)):op=3∨op=4∨op=5∨op=12∨op=13:=by
 unfold Ok at h;omega
theorem ok_sub{b:Bool}{op:Int}{x y:Tree}(h:Ok b (.node op x y)):∃ b',Ok b' x∧Ok b' y:=by
 unfold Ok at h;rcases h with⟨_,_,h1,h2⟩|⟨_,_,h1,h2⟩|⟨_,_,h1,h2⟩
 ·exact⟨_,h1,h2⟩
 ·exact⟨_,h1,h2⟩
 ·exact⟨_,h1,h2⟩
open Lx (first letter run pack)
end Sh
namespace Sh
open Rl (St Res opOf isN loop rows adv put into outof inside)
open Lx (Tk)
end Sh
namespace Sh
open Rl (St Res opOf isN loop rows adv put into outof inside)
open Lx (Tk)
def isLeaf(n:Int):Bool:=decide (n=1∨n=2∨6≤n∧n≤11)
def tstep(ts:List Tree)(n:Int):List Tree :=
 if isLeaf n=true then ts++[.leaf n]
 else ts.take (ts.length-2)++[.node n (ts.getD (ts.length-2) (.leaf 0)) (ts.getD (ts.length-1) (.leaf 0))]
def tmach:List Tree→List Int→List Tree
 | ts,[]=>ts
 | ts,n :: r=>tmach (tstep ts n) r
theorem z5x{n:Int}(h:isLeaf n=false)(ts:List Tree)(x y:Tree):tstep (ts++[x]++[y]) n=ts++[.node n x y]:=by
 unfold tstep;rw[if_neg (by rw[h];decide)];have e0:(ts++[x]++[y]).length=ts.length+2:=by simp
 rw[e0,Nat.add_sub_cancel,show ts.length+2-1=ts.length+1 by omega]
 congr 1
 ·rw[List.append_assoc,List.take_left]
 ·simp
theorem j1h{b:Bool}{op:Int}(h:Ok b (.leaf op)):isLeaf op=true:=by
 unfold Ok at h;exact decide_eq_true (by rcases h with⟨_,h⟩|⟨_,h⟩<;>omega)
theorem z6z{b:Bool}{op:Int}{x y:Tree}(h:Ok b (.node op x y)):isLeaf op=false:=by
 have:=ok_op h;exact decide_eq_false (by omega)
def Piled(q:List Bool)(ts:List Tree):Prop:=ts.length=q.length∧∀(j:Nat) (b:Bool) (t:Tree),q[j]? = some b→ts[j]? = some t→Ok b t
theorem Piled.snoc{q:List Bool}{ts:List Tree}{b:Bool}{t:Tree}(h:Piled q ts)(ht:Ok b t):Piled (q++[b]) (ts++[t]):=by
 refine⟨by simp[h.1],fun j c u hc hu=>?_⟩;by_cases hj:j<q.length
 ·rw[List.getElem?_append_left hj] at hc;rw[List.getElem?_append_left (by rw[h.1];exact hj)] at hu;exact h.2 j c u hc hu
 ·rw[List.getElem?_append_right (by omega)] at hc;rw[List.getElem?_append_right (by have:=h.1;omega)] at hu;have h0:j-q.length=0:=by have:=(List.getElem?_eq_some_iff.1 hc).1;simp at this;omega
  rw[h0] at hc;rw[h.1,h0] at hu;injection hc with hc;injection hu with hu;subst hc hu;exact ht
theorem Piled.take{q:List Bool}{ts:List Tree}(h:Piled q ts)(n:Nat):Piled (q.take n) (ts.take n):=by
 refine⟨by simp[h.1],fun j c u hc hu=>?_⟩;rw[List.getElem?_take] at hc hu;split at hc
 ·rename_i hj
  rw[if_pos hj] at hu;exact h.2 j c u hc hu
 ·cases hc
def posts(ts:List Tree):List Int:=ts.flatMap post
theorem q20(a b:List Tree):posts (a++b)=posts a++posts b:=by simp[posts]
theorem z7p{q q':List Bool}{ts:List Tree}{n:Int}(h:Piled q ts)(hs:Rl.step q n=some q'):Piled q' (tstep ts n)∧posts (tstep ts n)=posts ts++[n]:=by
 have leaf:∀ b,Ok b (.leaf n)→Piled (q++[b]) (tstep ts n)∧posts (tstep ts n)=posts ts++[n]:=fun b hb=>by
  unfold tstep;rw[if_pos (j1h hb)];exact⟨h.snoc hb,by rw[q20];simp[posts,post]⟩
 have node:∀ a b,(∀ x y,Ok a x→Ok a y→Ok b (.node n x y))→Rl.two q a b=some q'→Piled q' (tstep ts n)∧posts (tstep ts n)=posts ts++[n]:=fun a b hb h2=>by
  unfold Rl.two at h2;split at h2
  ·rename_i hq
   obtain⟨hq2,hqa,hqb⟩:=hq;injection h2 with h2;subst h2;obtain⟨m,hm⟩:∃ m,q.length=m+2:=⟨q.length-2,by omega⟩;have hl:=h.1;rw[hm] at hqa hqb hl ⊢;rw[Nat.add_sub_cancel] at hqa ⊢;rw[show m+2-1=m+1 by omega] at hqb;have g1:ts[m]? = some ts[m]:=List.getElem?_eq_getElem (by omega);have g2:ts[m+1]? = some ts[m+1]:=List.getElem?_eq_getElem (by omega);have ok1:=h.2 _ _ _ hqa g1;have ok2:=h.2 _ _ _ hqb g2;have okn:=hb _ _ ok1 ok2;have hts:ts=ts.take m++[ts[m]]++[ts[m+1]]:=by
    have e1:ts.take (m+1)=ts.take m++[ts[m]]:=by rw[List.take_add_one,g1];rfl
    have e2:ts.take (m+2)=ts.take (m+1)++[ts[m+1]]:=by rw[List.take_add_one,g2];rfl
    rw[←e1,←e2,List.take_of_length_le (by omega)]
   have hst:tstep ts n=ts.take m++[.node n ts[m] ts[m+1]]:=by
    have:=z5x (z6z okn) (ts.take m) ts[m] ts[m+1]
    rwa [←hts] at this
   rw[hst];refine⟨(h.take m).snoc okn,?_⟩;have hp:posts ts=posts (ts.take m)++post ts[m]++post ts[m+1]:=by
    have:=congrArg posts hts;rw[q20,q20] at this;rw[this];simp[posts]
   rw[hp,q20];simp[posts,post]
  ·cases h2
 unfold Rl.step at hs;split at hs
 ·rename_i h1;injection hs with hs;subst hs
  exact leaf false (by unfold Ok;exact .inr ⟨rfl,h1⟩)
 ·split at hs
  ·rename_i h1;injection hs with hs;subst hs
   exact leaf true (by unfold Ok;exact .inl ⟨rfl,h1.1,h1.2⟩)
  ·split at hs
   ·rename_i h1;exact node false false (fun x y hx hy=>by unfold Ok;exact .inl ⟨rfl,h1,hx,hy⟩) hs
   ·split at hs
    ·rename_i h1;exact node true false (fun x y hx hy=>by unfold Ok;exact .inr (.inl ⟨rfl,h1,hx,hy⟩)) hs
    ·split at hs
     ·rename_i h1;exact node true true (fun x y hx hy=>by unfold Ok;exact .inr (.inr ⟨rfl,h1,hx,hy⟩)) hs
     ·cases hs
theorem q9j:∀(rule:List Int) (q q':List Bool) (ts:List Tree),Piled q ts→Rl.pileOf q rule=some q'→Piled q' (tmach ts rule)∧posts (tmach ts rule)=posts ts++rule
 | [],q,q',ts,h,hs=>by
  injection hs with hs
  subst hs
  exact⟨h,by simp[tmach]⟩
 | n :: r,q,q',ts,h,hs=>by
  simp only[Rl.pileOf] at hs
  cases hq:Rl.step q n with
  | none=>rw[hq] at hs;cases hs
  | some q1 =>
   rw[hq,Option.bind_some] at hs
   obtain⟨a1,a2⟩:=z7p h hq
   obtain⟨b1,b2⟩:=q9j r q1 q' _ a1 hs
   exact⟨b1,by show posts (tmach (tstep ts n) r)=_;rw[b2,a2];simp⟩
theorem right_tree{rule:List Int}{b:Bool}(h:Rl.right rule b=true):∃ t,Ok b t∧post t=rule∧tmach [] rule=[t]:=by
 obtain⟨_,h2⟩:=of_decide_eq_true h;obtain⟨a1,a2⟩:=q9j rule [] [b] [] ⟨rfl,fun j c u hc=>by simp at hc⟩ h2;obtain⟨t,ht⟩:∃ t,tmach [] rule=[t]:=by
  have:=a1.1
  match hm:tmach [] rule,this with
  | [t],_=>exact⟨t,rfl⟩
 rw[ht] at a1 a2;exact⟨t,a1.2 0 b t rfl rfl,by simpa [posts] using a2,ht⟩
end Sh
namespace Tb
open Sh (Tree Ok post)
open Lx (Tk first letter run pack)
def words : List (List UInt8) :=
  [[110, 111, 111, 112], [112, 117, 115, 104], [112, 111, 112], [97, 100, 100], [115, 117, 98], [108, 111, 97, 100], [115, 116, 111, 114, 101], [106, 117, 109, 112], [98, 110, 122], [99, 97, 108, 108],
   [114, 101, 116, 117, 114, 110], [111, 117, 116, 112, 117, 116], [104, 97, 108, 116]]
def wordL(op:Nat):List UInt8:=words.getD op []
def word(op:Nat):ByteArray:=pack (wordL op)
def arity(op:Nat):Nat:=[0,1,1,2,2,2,3,1,1,1,2,1,0].getD op 0
theorem op_cases{op:Nat}(h:op<13):op=0∨op=1∨op=2∨op=3∨op=4∨op=5∨op=6∨op=7∨op=8∨op=9∨op=10∨op=11∨op=12:=by omega
abbrev mColon:ByteArray:={ data:=#[58] }
abbrev mSemi:ByteArray:={ data:=#[59] }
end Tb
namespace Jg
open Sh (Tree Ok post)
inductive Th
 | c (b:Bool)
 | l (n:Nat)
def sort:Th→Bool
 | .c _=>false
 | .l _=>true
def Is:Th→Bool
 | .c b=>b
 | .l _=>false
def A:Th→Nat
 | .c _=>0
 | .l n=>n
structure Ops where
 fl:Nat→Nat→Bool
 jn:Nat→Nat→Nat
 mt:Nat→Nat→Nat
 bot:Nat
 top:Nat
 lab:Nat→Nat
variable (o:Ops)
def one(n:Int):Th :=
 if n=1 then .c true else if n=2 then .c false else if n=6 then .l o.bot else if n=7 then .l o.top else .l (o.lab (n-8).toNat)
def two(n:Int)(x y:Th):Th :=
 match x with
 | .c b=>if n=3 then .c (b&&Is y) else .c (b || Is y)
 | .l a=>if n=5 then .c (o.fl a (A y)) else if n=12 then .l (o.jn a (A y)) else .l (o.mt a (A y))
def ev:Tree→Th
 | .leaf n=>one o n
 | .node n x y=>two o n (ev x) (ev y)
def isTwo(n:Int):Bool:=decide (n=3∨n=4∨n=5∨n=12∨n=13)
def step(q:List Th)(n:Int):List Th :=
 if isTwo n=true then
  match q[q.length-2]?,q[q.length-1]? with
  | some x,some y=>q.take (q.length-2)++[two o n x y]
  | _,_=>q
 else q++[one o n]
def mach:List Th→List Int→List Th
 | q,[]=>q
 | q,n :: r=>mach (step o q n) r
theorem q4j:∀(a b:List Int) (q:List Th),mach o q (a++b)=mach o (mach o q a) b
 | [],_,_=>rfl
 | n :: a,b,q=>by simp only[List.cons_append,mach];exact q4j a b _
theorem step_snoc{n:Int}(h:isTwo n=true)(q:List Th)(x y:Th):step o (q++[x]++[y]) n=q++[two o n x y]:=by
 unfold step;rw[if_pos h];have e1:(q++[x]++[y])[(q++[x]++[y]).length-2]? = some x:=by simp
 have e2:(q++[x]++[y])[(q++[x]++[y]).length-1]? = some y:=by simp
 rw[e1,e2];simp
theorem step_one{n:Int}(h:isTwo n=false)(q:List Th):step o q n=q++[one o n]:=by
 unfold step;rw[if_neg (by rw[h];decide)]
theorem isTwo_leaf{b:Bool}{n:Int}(h:Ok b (.leaf n)):isTwo n=false:=by
 unfold Ok at h;exact decide_eq_false fun h1=>by omega
theorem z4s{b:Bool}{n:Int}{x y:Tree}(h:Ok b (.node n x y)):isTwo n=true:=by
 have:=Sh.ok_op h;exact decide_eq_true this
theorem q54:∀(t:Tree) (b:Bool) (q:List Th),Ok b t→mach o q (post t)=q++[ev o t]
 | .leaf n,b,q,h=>by
  show mach o (step o q n) []=_
  rw[step_one o (isTwo_leaf h)]
  rfl
 | .node n x y,b,q,h=>by
  obtain⟨b',hx,hy⟩:=Sh.ok_sub h
  show mach o q (post x++post y++[n])=_
  rw[q4j,q4j,q54 x b' q hx,q54 y b' _ hy]
  show mach o (step o _ n) []=_
  rw[step_snoc o (z4s h)]
  rfl
def Good(m:Nat):Th→Prop
 | .c _=>True
 | .l a=>a<m
structure Ops.Fine (m:Nat):Prop where
 jn:∀ a b,a<m→b<m→o.jn a b<m
 mt:∀ a b,a<m→b<m→o.mt a b<m
 bot:o.bot<m
 top:o.top<m
 lab:∀ k,k<4→o.lab k<m
variable {o}
theorem z9c{m:Nat}(h:o.Fine m){n:Int}(h1:6≤n→n≤11)(h2:1≤n):Good m (one o n):=by
 unfold one;split
 ·trivial
 ·split
  ·trivial
  ·split
   ·exact h.bot
   ·split
    ·exact h.top
    ·by_cases h6:6≤n
     ·exact h.lab _ (by have:=h1 h6;omega)
     ·exact h.lab _ (by omega)
theorem z1o{m:Nat}(h:o.Fine m)(n:Int){x y:Th}(hx:Good m x)(hy:Good m y)(hs:sort x=sort y):Good m (two o n x y):=by
 cases x with
 | c b=>unfold two;dsimp only;split<;>trivial
 | l a =>
  cases y with
  | c b=>cases hs
  | l b =>
   unfold two;dsimp only;split
   ·trivial
   ·split
    ·exact h.jn _ _ hx hy
    ·exact h.mt _ _ hx hy
theorem z0v{n:Int}{b:Bool}(h:Ok b (.leaf n)):sort (one o n)=b:=by
 unfold Ok at h;unfold one;rcases h with⟨rfl,h1,h2⟩|⟨rfl,rfl|rfl⟩
 ·rw[if_neg (by omega),if_neg (by omega)];split
  ·rfl
  ·split<;>rfl
 ·rfl
 ·rfl
theorem j0f{n:Int}{b:Bool}{x y:Tree}(h:Ok b (.node n x y)){u v:Th}{b':Bool}(hx:Ok b' x)(hu:sort u=b'):sort (two o n u v)=b:=by
 unfold Ok at h;have key:∀(t:Tree) (a c:Bool),Ok a t→Ok c t→a=c:=by
  intro t a c h1 h2;cases t with
  | leaf n=>unfold Ok at h1 h2;rcases h1 with⟨rfl,_⟩|⟨rfl,_⟩<;>rcases h2 with⟨rfl,_⟩|⟨rfl,_⟩<;>first|rfl|omega
  | node n x y=>unfold Ok at h1 h2;rcases h1 with⟨rfl,_⟩|⟨rfl,_⟩|⟨rfl,_⟩<;>rcases h2 with⟨rfl,_⟩|⟨rfl,_⟩|⟨rfl,_⟩<;>first|rfl|omega
 rcases h with⟨rfl,h1,h2,_⟩|⟨rfl,rfl,h2,_⟩|⟨rfl,h1,h2,_⟩
 ·have:=key x _ _ hx h2;rw[this] at hu;cases u with
  | c u=>unfold two;dsimp only;split<;>rfl
  | l u=>cases hu
 ·have:=key x _ _ hx h2;rw[this] at hu;cases u with
  | c u=>cases hu
  | l u=>rfl
 ·have:=key x _ _ hx h2;rw[this] at hu;cases u with
  | c u=>cases hu
  | l u =>
   unfold two;dsimp only;rw[if_neg (by omega)];split<;>rfl
theorem ev_sort:∀(t:Tree) (b:Bool),Ok b t→sort (ev o t)=b
 | .leaf n,b,h=>z0v h
 | .node n x y,b,h=>by
  obtain⟨b',hx,hy⟩:=Sh.ok_sub h
  exact j0f h hx (ev_sort x b' hx)
theorem ev_good{m:Nat}(hf:o.Fine m):∀(t:Tree) (b:Bool),Ok b t→Good m (ev o t)
 | .leaf n,b,h=>z9c hf (by unfold Ok at h;omega) (by unfold Ok at h;omega)
 | .node n x y,b,h=>by
  obtain⟨b',hx,hy⟩:=Sh.ok_sub h
  exact z1o hf n (ev_good hf x b' hx) (ev_good hf y b' hy) (by rw[ev_sort x b' hx,ev_sort y b' hy])
def sorts(q:List Th):List Bool:=q.map sort
theorem z7o(q:List Th):(sorts q).length=q.length:=by simp[sorts]
theorem z7v{α:Type}{l:List α}{x y:α}(h1:2≤l.length)(hx:l[l.length-2]? = some x)(hy:l[l.length-1]? = some y):l=l.take (l.length-2)++[x]++[y]:=by
 obtain⟨n,hn⟩:∃ n,l.length=n+2:=⟨l.length-2,by omega⟩;rw[hn] at hx hy ⊢;rw[show n+2-2=n by omega] at hx ⊢;rw[show n+2-1=n+1 by omega] at hy;refine List.ext_getElem? fun j=>?_
 by_cases h:j<n
 ·rw[List.append_assoc,List.getElem?_append_left (by rw[List.length_take];omega),List.getElem?_take,if_pos h]
 ·by_cases h2:j=n
  ·subst h2;rw[hx,List.append_assoc,List.getElem?_append_right (by rw[List.length_take];omega),List.length_take,hn];simp
  ·by_cases h3:j=n+1
   ·subst h3;rw[hy,List.append_assoc,List.getElem?_append_right (by rw[List.length_take];omega),List.length_take,hn,show n+1-min n (n+2)=1 by omega];rfl
   ·rw[List.getElem?_eq_none (by omega),List.getElem?_eq_none (by simp[hn];omega)]
theorem z96{q:List Th}{n:Int}{a b:Bool}{p':List Bool}(hn:isTwo n=true)(h:Rl.two (sorts q) a b=some p'):∃ q0 x y,q=q0++[x]++[y]∧sort x=a∧sort y=a∧p'=sorts q0++[b]∧step o q n=q0++[two o n x y]:=by
 unfold Rl.two at h;split at h
 ·rename_i hc
  injection h with h;obtain⟨h1,h2,h3⟩:=hc;rw[z7o] at h1 h2 h3 h;obtain⟨x,hx⟩:∃ x,q[q.length-2]? = some x:=⟨_,List.getElem?_eq_getElem (by omega)⟩;obtain⟨y,hy⟩:∃ y,q[q.length-1]? = some y:=⟨_,List.getElem?_eq_getElem (by omega)⟩;have hx2:sort x=a:=by have:=h2;unfold sorts at this;rw[List.getElem?_map,hx] at this;simpa using this
  have hy2:sort y=a:=by have:=h3;unfold sorts at this;rw[List.getElem?_map,hy] at this;simpa using this
  have hq:=z7v h1 hx hy;refine⟨q.take (q.length-2),x,y,hq,hx2,hy2,?_,?_⟩
  ·rw[←h];unfold sorts;rw[List.map_take]
  ·conv=>lhs;rw[hq]
   exact step_snoc o hn _ x y
 ·cases h
inductive Kind (q:List Th) (n:Int):List Bool→Prop
 | one (b:Bool) (h:Ok b (.leaf n)):Kind q n (sorts q++[b])
 | two (q0:List Th) (x y:Th) (a b:Bool) (hq:q=q0++[x]++[y]) (hx:sort x=a) (hy:sort y=a) (hn:((n=3∨n=4)∧a=false∧b=false)∨(n=5∧a=true∧b=false)∨((n=12∨n=13)∧a=true∧b=true)):Kind q n (sorts q0++[b])
theorem kind_of(q:List Th){n:Int}{p':List Bool}(h:Rl.step (sorts q) n=some p'):Kind q n p':=by
 have h2:∀ a b,isTwo n=true→((n=3∨n=4)∧a=false∧b=false)∨(n=5∧a=true∧b=false)∨((n=12∨n=13)∧a=true∧b=true)→Rl.two (sorts q) a b=some p'→Kind q n p':=fun a b hn hk h=>by
  obtain⟨q0,x,y,e1,e2,e3,e4,-⟩:=z96 (o:=⟨fun _ _=>false,fun _ _=>0,fun _ _=>0,0,0,fun _=>0⟩) hn h;rw[e4];exact .two q0 x y a b e1 e2 e3 hk
 unfold Rl.step at h;split at h
 ·rename_i h1;injection h with h;subst h;exact .one false (by unfold Ok;exact .inr ⟨rfl,h1⟩)
 ·split at h
  ·rename_i h1;injection h with h;subst h;exact .one true (by unfold Ok;exact .inl ⟨rfl,h1⟩)
  ·split at h
   ·rename_i h1;exact h2 _ _ (decide_eq_true (by omega)) (.inl ⟨h1,rfl,rfl⟩) h
   ·split at h
    ·rename_i h1;exact h2 _ _ (decide_eq_true (by omega)) (.inr (.inl ⟨h1,rfl,rfl⟩)) h
    ·split at h
     ·rename_i h1;exact h2 _ _ (decide_eq_true (by omega)) (.inr (.inr ⟨h1,rfl,rfl⟩)) h
     ·cases h
theorem step_sorts{q:List Th}{n:Int}{p':List Bool}(h:Kind q n p'):sorts (step o q n)=p':=by
 cases h with
 | one b h=>rw[step_one o (isTwo_leaf h)];unfold sorts;rw[List.map_append];simp[z0v (o:=o) h]
 | two q0 x y a b hq hx hy hn =>
  subst hq;rw[step_snoc o (decide_eq_true (by omega))];unfold sorts;rw[List.map_append,List.map_singleton]
  congr 2
  rcases hn with⟨h1,rfl,rfl⟩|⟨rfl,rfl,rfl⟩|⟨h1,rfl,rfl⟩
  ·cases x with
   | c u=>unfold two;dsimp only;split<;>rfl
   | l u=>cases hx
  ·cases x with
   | c u=>cases hx
   | l u=>rfl
  ·cases x with
   | c u=>cases hx
   | l u =>
    unfold two;dsimp only;rw[if_neg (by omega)];split<;>rfl
theorem step_good{m:Nat}(hf:o.Fine m){q:List Th}{n:Int}{p':List Bool}(h:Kind q n p')(hg:∀ x ∈ q,Good m x):∀ x ∈ step o q n,Good m x:=by
 cases h with
 | one b h =>
  rw[step_one o (isTwo_leaf h)];intro x hx;rcases List.mem_append.1 hx with hx|hx
  ·exact hg x hx
  ·rw[List.mem_singleton.1 hx];exact ev_good hf (.leaf n) b h
 | two q0 x y a b hq hx hy hn =>
  subst hq;rw[step_snoc o (decide_eq_true (by omega))];intro z hz;rcases List.mem_append.1 hz with hz|hz
  ·exact hg z (by simp[hz])
  ·rw[List.mem_singleton.1 hz];exact z1o hf n (hg x (by simp)) (hg y (by simp)) (by rw[hx,hy])
theorem step_length{q:List Th}{n:Int}{p':List Bool}(h:Kind q n p'):(step o q n).length≤q.length+1:=by
 cases h with
 | one b h=>rw[step_one o (isTwo_leaf h)];simp
 | two q0 x y a b hq hx hy hn =>
  subst hq;rw[step_snoc o (decide_eq_true (by omega))];simp
def val(o:Ops)(rule:List Int):Th:=(mach o [] rule).headD (.c false)
theorem val_tree{t:Tree}{b:Bool}(h:Ok b t):val o (post t)=ev o t:=by
 unfold val;rw[q54 o t b [] h];rfl
end Jg
end Go.Proofs.YtjobifclmcdjcaaGreatDoor
