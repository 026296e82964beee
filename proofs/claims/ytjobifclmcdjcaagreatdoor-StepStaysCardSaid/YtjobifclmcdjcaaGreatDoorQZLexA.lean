import Derived.Shelf.Strings.OnBuilder
import Derived.Shelf.Small.Strs
import Derived.Test.YtjobifclmcdjcaaGreatDoorProg
import Derived.BigQuiet
import Derived.Deep.QuietTactic
import Derived.Deep.DeepFit
import Derived.LoopTactic
import Derived.Lib.Bytealg
import Derived.Test.YtjobifclmcdjcaaGreatDoorQZLexP
import Derived.Test.YtjobifclmcdjcaaGreatDoorQZPairs
set_option maxHeartbeats 64000000
set_option maxRecDepth 100000
namespace Go.Proofs.YtjobifclmcdjcaaGreatDoor
open Go.Shelf
def lays137_ren:Go.Shelf.Ren:=⟨fun|137=>184|217=>192|266=>193|n=>n,fun|9=>9|5=>5|3=>3|n=>n,fun|n=>n⟩
theorem j05:Go.Proofs.Lays.n137 Tryz.prog lays137_ren:={
 mixed:=by kernel_rfl
 f137:=Tryz.func184.trans (congrArg some (by kernel_rfl))
 f217:=Tryz.func192.trans (congrArg some (by kernel_rfl))
 f266:=Tryz.func193.trans (congrArg some (by kernel_rfl))
 t3:=Tryz.underlying3
 a3:=Tryz.isAgg3
 z3:=Tryz.sizeOf3
 v3:=Tryz.zeroValue3
 t5:=Tryz.underlying5
 a5:=Tryz.isAgg5
 z5:=Tryz.sizeOf5
 v5:=Tryz.zeroValue5
 t9:=Tryz.underlying9
 a9:=Tryz.isAgg9
 z9:=Tryz.sizeOf9
 v9:=Tryz.zeroValue9 }
open Go.RowKit in
theorem strings_IndexByte (s:ByteArray) (c:Int) (w:World) :
  Calls Tryz.prog 184 #[.string s,.int .u8 c] w fun e w'=>e=.returned (.int .i64 (Lib.indexByte s.data.toList c.toNat.toUInt8))∧w'=w:=Any.strings_IndexByte j05 s c w
end Go.Proofs.YtjobifclmcdjcaaGreatDoor
namespace Go.Proofs.YtjobifclmcdjcaaGreatDoor
open Go.RowKit Go.Shelf
theorem retb{a b:Bool}(h:a=b):Ending.returned (.bool a)=.returned (.bool b):=by rw[h]
theorem reti{x y:Int}(h:x=y):Ending.returned (.int .i64 x)=.returned (.int .i64 y):=by rw[h]
def IsPred(g:FuncId)(p:UInt8→Bool):Prop:=∀(c:UInt8) (W:World),Calls Tryz.prog g #[.int .u8 (c.toNat:Int)] W fun e w'=>e=.returned (.bool (p c))∧W=w'
theorem z54(c:UInt8):Lx.blank c=true↔c.toNat=9∨c.toNat=10∨c.toNat=32:=by
 simp only[Lx.blank,Bool.or_eq_true,beq_iff_eq,←UInt8.toNat_inj,or_assoc];exact Iff.rfl
theorem z4q(c:UInt8):Lx.inLine c=true↔c.toNat≠10:=by
 simp only[Lx.inLine,bne_iff_ne,ne_eq,←UInt8.toNat_inj];exact Iff.rfl
theorem z4v(c:UInt8):Lx.letter c=true↔97≤c.toNat∧c.toNat≤122:=by
 simp only[Lx.letter,Bool.and_eq_true,decide_eq_true_eq,UInt8.le_iff_toNat_le];exact Iff.rfl
theorem z56(c:UInt8):Lx.digit c=true↔48≤c.toNat∧c.toNat≤57:=by
 simp only[Lx.digit,Bool.and_eq_true,decide_eq_true_eq,UInt8.le_iff_toNat_le];exact Iff.rfl
theorem q7c{P:Program}{f:FuncId}{args:Array Value}{w:World}{m n:Nat}{v:Value}(h:Calls P f args (w.drewN (m+n)) fun e w'=>e=.returned v∧w.drewN (m+n)=w'):Calls P f args (w.drewN (m+n)) fun e w''=>e=.returned v∧∃ k,w''=w.drewN (m+k) :=
 h.mono fun _ _ ⟨he,hm⟩=>⟨he,n,hm.symm⟩
theorem z2l:IsPred 169 Lx.blank:=by
 intro c w;go_enter Tryz.func169,Tryz.ntmps169;go_wp2;all_goals
  go_ret;refine⟨retb ?_,rfl⟩;rw[Bool.eq_iff_iff,z54];simp;omega
theorem z0f:IsPred 171 Lx.inLine:=by
 intro c w;go_enter Tryz.func171,Tryz.ntmps171;go_wp2;go_ret;refine⟨retb ?_,rfl⟩;rw[Bool.eq_iff_iff,z4q];simp;omega
theorem z0g:IsPred 172 Lx.letter:=by
 intro c w;go_enter Tryz.func172,Tryz.ntmps172;go_wp2;all_goals
  go_ret;refine⟨retb ?_,rfl⟩;rw[Bool.eq_iff_iff,z4v];simp;omega
theorem z2m:IsPred 173 Lx.digit:=by
 intro c w;go_enter Tryz.func173,Tryz.ntmps173;go_wp2;all_goals
  go_ret;refine⟨retb ?_,rfl⟩;rw[Bool.eq_iff_iff,z56];simp;omega
theorem q7h{s:ByteArray}(k:Nat)(hk:k<s.size):s.data.toList[k]? = some s[k]:=by
 rw[Array.getElem?_toList];exact Array.getElem?_eq_getElem hk
theorem z7l{p:UInt8→Bool}(r:List UInt8)(k:Nat)(h:∀ j c,j<k→r[j]? = some c→p c=true)(hk:k≤r.length)(hs:∀ c,r[k]? = some c→p c=false):Lx.run p r=k:=by
 induction r generalizing k with
 | nil=>simp at hk;subst hk;rfl
 | cons d r ih =>
  cases k with
  | zero=>exact Lx.run_no (hs d rfl) r
  | succ k =>
   rw[Lx.run_yes (h 0 d (by omega) rfl),ih k (fun j c hj e=>h (j+1) c (by omega) e) (by simpa using hk) (fun c e=>hs c e)]
theorem q5f{g:FuncId}{p:UInt8→Bool}(hen:∀ args W,(callFunc g args).run Tryz.prog W=.ok (.enter g args) W)(hp:IsPred g p)(r:ByteArray)(b:Nat)(w:World)(hr:r.size≤1000000)(hc:w.cell? ⟨b,0,none⟩=some (.func (.func g) #[] #[])) :
  Calls Tryz.prog 180 #[.string r,.pointer (some ⟨b,0,none⟩)] w fun e w'=>e=.returned (.int .i64 (Lx.run p r.data.toList:Nat))∧∃ m,w'=w.drewN m:=by
 have HP:=η hp;clear hp;go_enter Tryz.func180,Tryz.ntmps180;go_wp2;go_loopw [4] (fun i wr=>∃ k m:Nat,k≤r.size∧i=.int .i64 k∧wr=w.drewN m∧∀ j c,j<k→r.data.toList[j]? = some c→p c=true) (fun i _=>r.size-(intOf i).toNat);case atStart=>exact⟨0,0,Nat.zero_le _,rfl,rfl,fun j c h=>absurd h (Nat.not_lt_zero j)⟩
 case round =>
  obtain⟨k,m,hk,rfl,rfl,hall⟩:=hrel;have HALL:=η hall;clear hall;by_cases hlt:k<r.size
  ·have hi:(k:Int)<(r.size:Int):=by omega
   cases hpk:p r[k]
   ·have hcall:=fun W=>HP.out r[k] W
    rw[hpk] at hcall;have HC:=η hcall;have HK:=η hpk;clear hcall hpk;go_wp2;go_quiet (exact q7c (HC.out _));go_wp2;go_ret;refine⟨reti ?_,_,World.drewN_drewN _ _ _⟩;rw[z7l r.data.toList k HALL.out (by rw[←Lib.size_eq];omega) (fun c e=>by rw[q7h k hlt] at e;injection e with e;rw[←e];exact HK.out)]
   ·have hcall:=fun W=>HP.out r[k] W
    rw[hpk] at hcall;have HC:=η hcall;have HK:=η hpk;clear hcall hpk;go_wp2;go_quiet (exact q7c (HC.out _));go_wp2;go_roundw
    case rel=>exact⟨k+1,_,by omega,by go_num,rfl,fun j c hj e=>by
     rcases Nat.lt_or_eq_of_le (Nat.le_of_lt_succ hj) with h|rfl
     ·exact HALL.out j c h e
     ·rw[q7h _ hlt] at e;injection e with e;rw[←e];exact HK.out⟩
    case measure=>simp[intOf];omega
  ·have hi:decide ((k:Int)<(r.size:Int))=false:=by rw[decide_eq_false_iff_not];omega
   go_wp2;go_quiet (fail);go_wp2;go_ret;refine⟨reti ?_,_,World.drewN_drewN _ _ _⟩;rw[z7l r.data.toList k HALL.out (by rw[←Lib.size_eq];omega) (fun c e=>by have:=(List.getElem?_eq_some_iff.1 e).1;rw[←Lib.size_eq] at this;omega)]
theorem q28(s p:ByteArray)(w:World):Calls Tryz.prog 191 #[.string s,.string p] w fun e w'=>e=.returned (.bool (Lib.hasPrefix s.data.toList p.data.toList))∧w=w':=by
 have h:=Lib.hasPrefix_raw s p;have H:=η h;clear h;go_enter Tryz.func191,Tryz.ntmps191;go_wp2;all_goals
  go_ret;refine⟨retb ?_,rfl⟩;rw[←H.out];first
   | (simp_all;done)
   | (simp_all;omega)
   | (simp_all;intro h1;omega)
theorem q9r(s p:ByteArray)(w:World):Calls Tryz.prog 183 #[.string s,.string p] w fun e w'=>e=.returned (.bool (Lib.hasPrefix s.data.toList p.data.toList))∧w=w':=by
 have H:=η (q28 s p);go_enter Tryz.func183,Tryz.ntmps183;go_wp2_with (go_at_call 191;refine(H.out _).mono ?_;rintro e w' ⟨rfl,rfl⟩);go_ret;exact⟨rfl,rfl⟩
theorem q99{s p:ByteArray}(h:Lib.hasPrefix s.data.toList p.data.toList=false)(w:World):Calls Tryz.prog 182 #[.string s,.string p] w fun e w'=>e=.returned (.tuple #[.string s,.bool false])∧w=w':=by
 have h1:=q28 s p;rw[h] at h1;have H:=η h1;clear h h1;go_enter Tryz.func182,Tryz.ntmps182;go_wp2_with (first|(go_at_call 191;refine(H.out _).mono ?_;rintro e w' ⟨rfl,rfl⟩)|go_in);go_ret2;exact⟨rfl,rfl⟩
theorem q9q{s p:ByteArray}(h:Lib.hasPrefix s.data.toList p.data.toList=true)(hl:p.size≤s.size)(w:World):Calls Tryz.prog 182 #[.string s,.string p] w fun e w'=>e=.returned (.tuple #[.string (s.extract p.size s.size),.bool true])∧w=w':=by
 have h1:=q28 s p;rw[h] at h1;have H:=η h1;clear h h1;go_enter Tryz.func182,Tryz.ntmps182;go_wp2_with (first|(go_at_call 191;refine(H.out _).mono ?_;rintro e w' ⟨rfl,rfl⟩)|go_in);go_ret2;exact⟨rfl,rfl⟩
theorem z2b{r:List UInt8}(h:Lib.hasPrefix r [35]=true):1≤r.length∧Lx.comment r=1+Lx.run Lx.inLine (r.drop 1):=by
 cases r with
 | nil=>exact absurd h (by decide)
 | cons c r =>
  have hc:c=35:=by
   simp only[Lib.hasPrefix,List.isPrefixOf,Bool.and_eq_true,beq_iff_eq] at h;exact h.1.symm
  rw[Lx.comment_cons,if_pos hc];exact⟨by simp,rfl⟩
theorem z4l{r:List UInt8}(h:Lib.hasPrefix r [35]=false):Lx.comment r=0:=by
 cases r with
 | nil=>rfl
 | cons c r =>
  rw[Lx.comment_cons,if_neg];rintro rfl;exact absurd h (by simp[Lib.hasPrefix,List.isPrefixOf])
theorem z1v(r:ByteArray)(b1 b2 b3:Nat)(w:World)(hr:r.size≤1000000)(h1:w.cell? ⟨b1,0,none⟩=some (.string { data:=#[35] }))(h2:w.cell? ⟨b2,0,none⟩=some (.func (.func 180) #[] #[.pointer (some ⟨b3,0,none⟩)]))(h3:w.cell? ⟨b3,0,none⟩=some (.func (.func 171) #[] #[])) :
  Calls Tryz.prog 181 #[.string r,.pointer (some ⟨b1,0,none⟩),.pointer (some ⟨b2,0,none⟩)] w fun e w'=>e=.returned (.int .i64 (Lx.comment r.data.toList:Nat))∧∃ m,w'=w.drewN m:=by
 cases hp:Lib.hasPrefix r.data.toList [35]
 ·have hc:=q99 (s:=r) (p:={ data:=#[35] }) hp w;have e:=z4l hp;have HC:=η hc;have E:=η e;clear hc e hp;go_enter Tryz.func181,Tryz.ntmps181;go_wp2_with (go_at_call 182;refine HC.out.mono ?_;rintro e w' ⟨rfl,rfl⟩);go_ret;exact⟨reti (by rw[E.out];rfl),0,rfl⟩
 ·obtain⟨hl,e⟩:=z2b hp;rw[←Lib.size_eq] at hl;have hc:=q9q (s:=r) (p:={ data:=#[35] }) hp hl w;have hn:=fun n=>q5f Tryz.call171 z0f (r.extract 1 r.size) b3 (w.drewN n) (by rw[Lib.size_eq,Lib.extract_data,List.length_take,List.length_drop];omega) h3
  have he:(r.extract 1 r.size).data.toList=r.data.toList.drop 1:=by rw[Lib.extract_data,List.take_of_length_le (by rw[List.length_drop,Lib.size_eq];exact Nat.le_refl _)]
  rw[he] at hn;have HC:=η hc;have HN:=η hn;have E:=η e;have hb:=Lx.run_le Lx.inLine (r.data.toList.drop 1);rw[List.length_drop,←Lib.size_eq] at hb;have HB:=η hb;clear hc e hp hn he hb;go_enter Tryz.func181,Tryz.ntmps181;go_wp2_with (go_at_call 182;refine HC.out.mono ?_;rintro e w' ⟨rfl,rfl⟩);go_quiet ((go_at_call 180;exact Calls.quiet_of (HN.out _)));go_wp2;go_ret;refine⟨reti ?_,_,rfl⟩;rw[E.out];have hb:=HB.out;rw[←List.drop_one];generalize Lx.run Lx.inLine (r.data.toList.drop 1)=k at *;unfold wrap64;omega
theorem z84{r:List UInt8}(h:Lib.hasPrefix r [60,61]=true):Lx.mark r=2:=by
 rcases r with _|⟨c,_|⟨d,r⟩⟩
 ·exact absurd h (by decide)
 ·simp[Lib.hasPrefix,List.isPrefixOf] at h
 ·simp only[Lib.hasPrefix,List.isPrefixOf,Bool.and_eq_true,beq_iff_eq] at h;rw[Lx.mark_cons,if_pos ⟨h.1.symm,by rw[←h.2.1];rfl⟩]
theorem z83{c:UInt8}{r:List UInt8}(h:Lib.hasPrefix (c :: r) [60,61]=false):Lx.mark (c :: r)=if Lx.marks.contains c then 1 else 0:=by
 rw[Lx.mark_cons,if_neg];rintro⟨rfl,e⟩;rcases r with _|⟨d,r⟩
 ·simp at e
 ·simp only[List.head?_cons,Option.some.injEq] at e;subst e;simp[Lib.hasPrefix,List.isPrefixOf] at h
theorem q9b(c:UInt8):∀ l:List UInt8,decide (0≤Lib.indexByte l c)=l.contains c
 | []=>rfl
 | b :: l=>by
  have ih:=q9b c l
  have hg:=Lib.indexByte_ge l c
  unfold Lib.indexByte
  by_cases hb:b=c
  ·subst hb
   simp
  ·have h1:(b==c)=false:=by simpa using hb
   have h2:(c==b)=false:=by simpa using fun e=>hb e.symm
   rw[h1,List.contains_cons,h2,←ih]
   simp only[Bool.false_eq_true,if_false,Bool.false_or]
   by_cases hm:Lib.indexByte l c = -1
   ·rw[hm];decide
   ·have h3:(Lib.indexByte l c==-1)=false:=by simpa using hm
    rw[h3]
    simp only[Bool.false_eq_true,if_false]
    congr 1
    exact propext ⟨fun _=>by omega,fun _=>by omega⟩
theorem z3i(c:UInt8):((c.toNat:Int)).toNat.toUInt8=c:=by simp
theorem z82(s:ByteArray)(c:UInt8)(r:List UInt8)(w:World)(hs:s.data.toList=c :: r) :
  Calls Tryz.prog 174 #[.string s] w fun e w'=>e=.returned (.int .i64 (Lx.mark s.data.toList:Nat))∧∃ m,w'=w.drewN m:=by
 have hpf:=q9r s { data:=#[60,61] } w;rw[hs] at hpf ⊢;have hpos:0<s.size:=by rw[Lib.size_eq,hs];simp
 have h0:s[0]=c:=by
  have:=q7h (s:=s) 0 hpos;rw[hs] at this;injection this with this;exact this.symm
 cases hp:Lib.hasPrefix (c :: r) [60,61]
 ·have hpf':Calls Tryz.prog 183 #[.string s,.string { data:=#[60,61] }] w fun e w'=>e=.returned (.bool false)∧w=w':=by rw[←hp];exact hpf
  have e:=z83 hp;have hix:=strings_IndexByte { data:=#[40,41,91,93,59,58,44,60,62,64,45,61] } (c.toNat:Int) w;rw[z3i] at hix;rw[←h0] at hix;have hm:decide (0≤Lib.indexByte [40,41,91,93,59,58,44,60,62,64,45,61] c)=Lx.marks.contains c:=q9b c _;have HC:=η hpf';have HX:=η hix;have E:=η e;have H0:=η h0;have HM:=η hm;clear hpf hpf' hix hp e h0 hm hs;go_enter Tryz.func174,Tryz.ntmps174;go_wp2_with (go_at_call 183;refine HC.out.mono ?_;rintro e w' ⟨rfl,rfl⟩);refine HX.out.mono ?_;rintro e w' ⟨rfl,rfl⟩;have HM2:Hid (decide (0≤Lib.indexByte [40,41,91,93,59,58,44,60,62,64,45,61] s[0])=Lx.marks.contains c):=by rw[H0.out];exact HM
  clear HX HC HM H0;cases hk:Lx.marks.contains c
  ·have hneg:¬0≤Lib.indexByte [40,41,91,93,59,58,44,60,62,64,45,61] s[0]:=by have:=HM2.out;rw[hk] at this;simpa using this
   have HK:=η hk;clear hk HM2;go_wp2;go_ret;exact⟨reti (by rw[E.out,HK.out];rfl),0,rfl⟩
  ·have hpo:0≤Lib.indexByte [40,41,91,93,59,58,44,60,62,64,45,61] s[0]:=by have:=HM2.out;rw[hk] at this;simpa using this
   have HK:=η hk;clear hk HM2;go_wp2;go_ret;exact⟨reti (by rw[E.out,HK.out];rfl),0,rfl⟩
 ·have hpf':Calls Tryz.prog 183 #[.string s,.string { data:=#[60,61] }] w fun e w'=>e=.returned (.bool true)∧w=w':=by rw[←hp];exact hpf
  have e:=z84 hp;have HC:=η hpf';have E:=η e;clear hpf hpf' hp e h0 hs;go_enter Tryz.func174,Tryz.ntmps174;go_wp2_with (go_at_call 183;refine HC.out.mono ?_;rintro e w' ⟨rfl,rfl⟩);go_ret;exact⟨reti (by rw[E.out];rfl),0,rfl⟩
theorem q3t(g:FuncId)(w:World):Calls Tryz.prog 168 #[.func (.func g) #[] #[]] w fun e w'=>e=.returned (.func (.func 180) #[] #[.pointer (some ⟨w.heap.size,0,none⟩)])∧w.alloc (.cells #[.func (.func g) #[] #[]] 222)=w':=by
 have hmf:∀(fn:Fn) (first cap:Array Value) (w:World),(Instr.makeFunc fn first cap).run Tryz.prog w=.ok (.func fn first cap) w:=fun _ _ _ _=>rfl
 go_enter Tryz.func168,Tryz.ntmps168;go_wp2;go_ret;exact⟨rfl,rfl⟩
theorem z4b(u:ByteArray)(g:FuncId)(cap:Array Value)(w:World):Calls Tryz.prog 170 #[.string u,.func (.func g) #[] cap] w fun e w'=>e=.returned (.func (.func 181) #[] #[.pointer (some ⟨w.heap.size,0,none⟩),.pointer (some ⟨w.heap.size+1,0,none⟩)])∧(w.alloc (.cells #[.string u] 9)).alloc (.cells #[.func (.func g) #[] cap] 220)=w':=by
 have hmf:∀(fn:Fn) (first cap:Array Value) (w:World),(Instr.makeFunc fn first cap).run Tryz.prog w=.ok (.func fn first cap) w:=fun _ _ _ _=>rfl
 go_enter Tryz.func170,Tryz.ntmps170;go_wp2;go_ret;refine⟨by simp,rfl⟩
theorem q3x{W:World}{g:Nat}{t:TypeId}{cs:Array Value}(h:W.heap.size=g):Blk (W.alloc (.cells cs t)) g t cs:=h▸Blk.new W t cs
theorem z5q(w:World)(s1 s2 s3 s4 s5 s6 s7:TypeId)(c1 c2 c3 c4 c5 c6 c7:Array Value) :
  Blk (((((((w.alloc (.cells c1 s1)).alloc (.cells c2 s2)).alloc (.cells c3 s3)).alloc (.cells c4 s4)).alloc (.cells c5 s5)).alloc (.cells c6 s6)).alloc (.cells c7 s7)) w.heap.size s1 c1 ∧
  Blk (((((((w.alloc (.cells c1 s1)).alloc (.cells c2 s2)).alloc (.cells c3 s3)).alloc (.cells c4 s4)).alloc (.cells c5 s5)).alloc (.cells c6 s6)).alloc (.cells c7 s7)) (w.heap.size+1) s2 c2 ∧
  Blk (((((((w.alloc (.cells c1 s1)).alloc (.cells c2 s2)).alloc (.cells c3 s3)).alloc (.cells c4 s4)).alloc (.cells c5 s5)).alloc (.cells c6 s6)).alloc (.cells c7 s7)) (w.heap.size+1+1) s3 c3 ∧
  Blk (((((((w.alloc (.cells c1 s1)).alloc (.cells c2 s2)).alloc (.cells c3 s3)).alloc (.cells c4 s4)).alloc (.cells c5 s5)).alloc (.cells c6 s6)).alloc (.cells c7 s7)) (w.heap.size+1+1+1) s4 c4 ∧
  Blk (((((((w.alloc (.cells c1 s1)).alloc (.cells c2 s2)).alloc (.cells c3 s3)).alloc (.cells c4 s4)).alloc (.cells c5 s5)).alloc (.cells c6 s6)).alloc (.cells c7 s7)) (w.heap.size+1+1+1+1) s5 c5 ∧
  Blk (((((((w.alloc (.cells c1 s1)).alloc (.cells c2 s2)).alloc (.cells c3 s3)).alloc (.cells c4 s4)).alloc (.cells c5 s5)).alloc (.cells c6 s6)).alloc (.cells c7 s7)) (w.heap.size+1+1+1+1+1) s6 c6 ∧
  Blk (((((((w.alloc (.cells c1 s1)).alloc (.cells c2 s2)).alloc (.cells c3 s3)).alloc (.cells c4 s4)).alloc (.cells c5 s5)).alloc (.cells c6 s6)).alloc (.cells c7 s7)) (w.heap.size+1+1+1+1+1+1) s7 c7 :=
 ⟨((((((q3x rfl).alloc _).alloc _).alloc _).alloc _).alloc _).alloc _,(((((q3x (by simp)).alloc _).alloc _).alloc _).alloc _).alloc _,((((q3x (by simp)).alloc _).alloc _).alloc _).alloc _,(((q3x (by simp)).alloc _).alloc _).alloc _,((q3x (by simp)).alloc _).alloc _,(q3x (by simp)).alloc _,q3x (by simp)⟩
def piecesL(a b1 b2 c d : Nat) : List Value :=
  [.int .i64 (-1), .func (.func 180) #[] #[.pointer (some ⟨a, 0, none⟩)],
   .int .i64 (-1), .func (.func 181) #[] #[.pointer (some ⟨b1, 0, none⟩), .pointer (some ⟨b2, 0, none⟩)],
   .int .i64 1, .func (.func 180) #[] #[.pointer (some ⟨c, 0, none⟩)],
   .int .i64 2, .func (.func 180) #[] #[.pointer (some ⟨d, 0, none⟩)],
   .int .i64 3, .func (.func 174) #[] #[]]
def Pieces(w:World)(B:Nat)(ad:Addr):Prop:=∃ a b1 b2 b3 c d:Nat,a<B∧b1<B∧b2<B∧b3<B∧c<B∧d<B ∧
  w.cell? ⟨a,0,none⟩=some (.func (.func 169) #[] #[]) ∧
  w.cell? ⟨b1,0,none⟩=some (.string { data:=#[35] }) ∧
  w.cell? ⟨b2,0,none⟩=some (.func (.func 180) #[] #[.pointer (some ⟨b3,0,none⟩)]) ∧
  w.cell? ⟨b3,0,none⟩=some (.func (.func 171) #[] #[]) ∧
  w.cell? ⟨c,0,none⟩=some (.func (.func 172) #[] #[]) ∧
  w.cell? ⟨d,0,none⟩=some (.func (.func 173) #[] #[]) ∧
  Row w B (some ad) (piecesL a b1 b2 c d)
theorem z46(w:World):Calls Tryz.prog 153 #[] w fun e w'=>∃ ad,e=.returned (.slice (some ad) 5 5)∧Pieces w' w'.heap.size ad∧Below w.heap.size w w':=by
 go_enter Tryz.func153,Tryz.ntmps153;go_wp2_with (fail);refine(q3t _ _).mono ?_;rintro e w' ⟨rfl,rfl⟩;go_wp2_with (fail);refine(q3t _ _).mono ?_;rintro e w' ⟨rfl,rfl⟩;go_wp2_with (fail);refine(z4b _ _ _ _).mono ?_;rintro e w' ⟨rfl,rfl⟩;go_wp2_with (fail);refine(q3t _ _).mono ?_;rintro e w' ⟨rfl,rfl⟩;go_wp2_with (fail);refine(q3t _ _).mono ?_;rintro e w' ⟨rfl,rfl⟩;go_wp2;go_ret;obtain⟨k1,k2,k3,k4,k5,k6,k7⟩:=z5q w 222 222 9 220 222 222 224
  #[.func (.func 169) #[] #[]] #[.func (.func 171) #[] #[]] #[.string { data:=#[35] }] #[.func (.func 180) #[] #[.pointer (some ⟨w.heap.size+1,0,none⟩)]] #[.func (.func 172) #[] #[]] #[.func (.func 173) #[] #[]]
  (piecesL w.heap.size (w.heap.size+1+1) (w.heap.size+1+1+1) (w.heap.size+1+1+1+1) (w.heap.size+1+1+1+1+1)).toArray
 refine⟨_,rfl,⟨w.heap.size,w.heap.size+1+1,w.heap.size+1+1+1,w.heap.size+1,w.heap.size+1+1+1+1,w.heap.size+1+1+1+1+1,k1.lt,k3.lt,k4.lt,k2.lt,k5.lt,k6.lt,k1.cell 0,k3.cell 0,k4.cell 0,k2.cell 0,k5.cell 0,k6.cell 0,k7.row.more k7.lt⟩,?_⟩;repeat (first|exact Below.refl _ _|refine Below.alloc ?_ (by simp<;>omega) _)
end Go.Proofs.YtjobifclmcdjcaaGreatDoor
