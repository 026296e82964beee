import Derived.Laws.EntriesVeiled
import Derived.Test.YtjobifclmcdjcaaGreatDoorQZLexA
set_option maxHeartbeats 64000000
set_option maxRecDepth 100000
namespace Go.Proofs.YtjobifclmcdjcaaGreatDoor
open Go.RowKit Go.Shelf
def Zs(r:List UInt8)(k:Nat):Prop:=(0<k→Lx.run Lx.blank r=0)∧(1<k→Lx.comment r=0)∧(2<k→Lx.run Lx.letter r=0)∧(3<k→Lx.run Lx.digit r=0)∧(4<k→Lx.mark r=0)
theorem z6c{r:List UInt8}(_:Zs r 0)(h:0<Lx.run Lx.blank r):Lx.first r=(-1,Lx.run Lx.blank r):=by
 unfold Lx.first;rw[if_pos h]
theorem z6d{r:List UInt8}(z:Zs r 1)(h:0<Lx.comment r):Lx.first r=(-1,Lx.comment r):=by
 unfold Lx.first;rw[if_neg (by rw[z.1 (by decide)];decide),if_pos h]
theorem z6e{r:List UInt8}(z:Zs r 2)(h:0<Lx.run Lx.letter r):Lx.first r=(1,Lx.run Lx.letter r):=by
 unfold Lx.first;rw[if_neg (by rw[z.1 (by decide)];decide),if_neg (by rw[z.2.1 (by decide)];decide),if_pos h]
theorem z6f{r:List UInt8}(z:Zs r 3)(h:0<Lx.run Lx.digit r):Lx.first r=(2,Lx.run Lx.digit r):=by
 unfold Lx.first;rw[if_neg (by rw[z.1 (by decide)];decide),if_neg (by rw[z.2.1 (by decide)];decide),if_neg (by rw[z.2.2.1 (by decide)];decide),if_pos h]
theorem z6g{r:List UInt8}(z:Zs r 4)(h:0<Lx.mark r):Lx.first r=(3,Lx.mark r):=by
 unfold Lx.first;rw[if_neg (by rw[z.1 (by decide)];decide),if_neg (by rw[z.2.1 (by decide)];decide),if_neg (by rw[z.2.2.1 (by decide)];decide),if_neg (by rw[z.2.2.2.1 (by decide)];decide),if_pos h]
theorem z6h{r:List UInt8}(z:Zs r 5):Lx.first r=(-1,0):=by
 unfold Lx.first;rw[if_neg (by rw[z.1 (by decide)];decide),if_neg (by rw[z.2.1 (by decide)];decide),if_neg (by rw[z.2.2.1 (by decide)];decide),if_neg (by rw[z.2.2.2.1 (by decide)];decide),if_neg (by rw[z.2.2.2.2 (by decide)];decide)]
theorem j0i{r:List UInt8}(_:Zs r 0)(h:Lx.run Lx.blank r=0):Zs r 1:=⟨fun _=>h,fun a=>absurd a (by decide),fun a=>absurd a (by decide),fun a=>absurd a (by decide),fun a=>absurd a (by decide)⟩
theorem j0j{r:List UInt8}(z:Zs r 1)(h:Lx.comment r=0):Zs r 2:=⟨fun _=>z.1 (by decide),fun _=>h,fun a=>absurd a (by decide),fun a=>absurd a (by decide),fun a=>absurd a (by decide)⟩
theorem j0k{r:List UInt8}(z:Zs r 2)(h:Lx.run Lx.letter r=0):Zs r 3:=⟨fun _=>z.1 (by decide),fun _=>z.2.1 (by decide),fun _=>h,fun a=>absurd a (by decide),fun a=>absurd a (by decide)⟩
theorem j0l{r:List UInt8}(z:Zs r 3)(h:Lx.run Lx.digit r=0):Zs r 4:=⟨fun _=>z.1 (by decide),fun _=>z.2.1 (by decide),fun _=>z.2.2.1 (by decide),fun _=>h,fun a=>absurd a (by decide)⟩
theorem j0m{r:List UInt8}(z:Zs r 4)(h:Lx.mark r=0):Zs r 5:=⟨fun _=>z.1 (by decide),fun _=>z.2.1 (by decide),fun _=>z.2.2.1 (by decide),fun _=>z.2.2.2.1 (by decide),fun _=>h⟩
theorem q2t{r:List UInt8}{k:Int}{n:Nat}(h:Lx.first r=(k,n)):Ending.returned (.tuple #[.int .i64 k,.int .i64 (n:Int)])=.returned (.tuple #[.int .i64 (Lx.first r).1,.int .i64 ((Lx.first r).2:Nat)]):=by rw[h]
theorem q0f{B:Nat}{a w:World}(h:Below B a w)(n:Nat):Below B a (w.drewN n):=h.trans ⟨rfl,rfl,rfl,Nat.le_refl _,fun _ _=>rfl⟩
theorem q03(a:Addr)(m j:Nat)(hj:0<j):a.add (m+j)=⟨(a.add m).block,(a.add m).off+j,none⟩:=by
 unfold Addr.add;rw[if_neg (by omega)];by_cases hm:m=0
 ·subst hm;simp
 ·simp[hm,Nat.add_assoc]
theorem z6b(s:ByteArray)(c0:UInt8)(r0:List UInt8)(ad:Addr)(w:World)(hs:s.data.toList=c0 :: r0)(hsz:s.size≤1000000)(hP:Pieces w w.heap.size ad) :
  Calls Tryz.prog 154 #[.slice (some ad) 5 5,.string s] w fun e w'=>e=.returned (.tuple #[.int .i64 (Lx.first s.data.toList).1,.int .i64 ((Lx.first s.data.toList).2:Nat)])∧Below w.heap.size w w':=by
 obtain⟨a,b1,b2,b3,c,d,la,lb1,lb2,lb3,lc,ld,ka,kb1,kb2,kb3,kc,kd,hrow⟩:=hP;have HROW:=η hrow;have HS:=η hs;have KA:=η ka;have KB1:=η kb1;have KB2:=η kb2;have KB3:=η kb3;have KC:=η kc;have KD:=η kd;clear hrow hs ka kb1 kb2 kb3 kc kd;go_enter Tryz.func154,Tryz.ntmps154;go_wp2;go_loopw [11] (fun i wr=>∃ k:Nat,k≤5∧i=.int .i64 k∧Hid (Zs s.data.toList k)∧Below w.heap.size w wr) (fun i _=>5-(intOf i).toNat);case atStart=>exact⟨0,Nat.zero_le _,rfl,⟨fun h=>absurd h (Nat.lt_irrefl 0),fun h=>absurd h (by decide),fun h=>absurd h (by decide),fun h=>absurd h (by decide),fun h=>absurd h (by decide)⟩,Below.refl _ _⟩
 case round =>
  obtain⟨k,hk,rfl,HZ,hb⟩:=hrel;by_cases hlt:k<5
  ·have hrow2:=HROW.out.below hb;obtain⟨ad',e,hadB,hcs⟩:=hrow2 (by simp[piecesL]);obtain rfl:ad'=ad:=by injection e with e;exact e.symm
   have HCS:=η hcs;have HB:=η hb;clear hrow2 e hcs hb;have hcases:k=0∨k=1∨k=2∨k=3∨k=4:=by omega
   rcases hcases with hk0|hk0|hk0|hk0|hk0
   ·have HK:=η hk0;clear hk0;have h0:wr.cell? (ad'.add (k*2))=some (.int .i64 (-1)):=by rw[HK.out];exact HCS.out 0 _ rfl
    have h1:wr.cell? ⟨(ad'.add (k*2)).block,(ad'.add (k*2)).off+1,none⟩=some (.func (.func 180) #[] #[.pointer (some ⟨a,0,none⟩)]):=by rw[HK.out,←q03 _ _ _ (by decide)];exact HCS.out 1 _ rfl
    have hcon:∀(o:Obj),Calls Tryz.prog 180 #[.string s,.pointer (some ⟨a,0,none⟩)] (wr.alloc o) fun e w'=>e=.returned (.int .i64 (Lx.run Lx.blank s.data.toList:Nat))∧∃ m,w'=(wr.alloc o).drewN m:=fun o=>by
     have hb2:=HB.out.alloc HB.out.size o;exact q5f Tryz.call169 z2l s a _ hsz ((hb2.cell (p:=⟨a,0,none⟩) la).trans KA.out)
    have HCON:=η hcon;clear hcon;obtain⟨n,hn⟩:∃ n,Lx.run Lx.blank s.data.toList=n:=⟨_,rfl⟩;have HN:=η hn;rw[hn] at HCON;clear hn;rcases Nat.eq_zero_or_pos n with hz|hpos
    ·subst hz;go_wp2_with (fail);refine(HCON.out _).mono ?_;rintro e w' ⟨rfl,m,rfl⟩;go_wp2;go_roundw;case rel=>exact⟨k+1,by omega,by go_num,by rw[HK.out];rw[HK.out] at HZ;exact j0i HZ.out HN.out,q0f (HB.out.alloc HB.out.size _) _⟩
     case measure=>simp[intOf];omega
    ·go_wp2_with (fail);refine(HCON.out _).mono ?_;rintro e w' ⟨rfl,m,rfl⟩;go_wp2;go_ret2;refine⟨?_,q0f (HB.out.alloc HB.out.size _) _⟩;rw[HK.out] at HZ;have hfin:=z6c HZ.out (by rw[HN.out];exact hpos);rw[HN.out] at hfin;exact q2t hfin
   ·have HK:=η hk0;clear hk0;have h0:wr.cell? (ad'.add (k*2))=some (.int .i64 (-1)):=by rw[HK.out];exact HCS.out 2 _ rfl
    have h1:wr.cell? ⟨(ad'.add (k*2)).block,(ad'.add (k*2)).off+1,none⟩=some (.func (.func 181) #[] #[.pointer (some ⟨b1,0,none⟩),.pointer (some ⟨b2,0,none⟩)]):=by rw[HK.out,←q03 _ _ _ (by decide)];exact HCS.out 3 _ rfl
    have hcon:∀(o:Obj),Calls Tryz.prog 181 #[.string s,.pointer (some ⟨b1,0,none⟩),.pointer (some ⟨b2,0,none⟩)] (wr.alloc o) fun e w'=>e=.returned (.int .i64 (Lx.comment s.data.toList:Nat))∧∃ m,w'=(wr.alloc o).drewN m:=fun o=>by
     have hb2:=HB.out.alloc HB.out.size o;exact z1v s b1 b2 b3 _ hsz ((hb2.cell (p:=⟨b1,0,none⟩) lb1).trans KB1.out) ((hb2.cell (p:=⟨b2,0,none⟩) lb2).trans KB2.out) ((hb2.cell (p:=⟨b3,0,none⟩) lb3).trans KB3.out)
    have HCON:=η hcon;clear hcon;obtain⟨n,hn⟩:∃ n,Lx.comment s.data.toList=n:=⟨_,rfl⟩;have HN:=η hn;rw[hn] at HCON;clear hn;rcases Nat.eq_zero_or_pos n with hz|hpos
    ·subst hz;go_wp2_with (fail);refine(HCON.out _).mono ?_;rintro e w' ⟨rfl,m,rfl⟩;go_wp2;go_roundw;case rel=>exact⟨k+1,by omega,by go_num,by rw[HK.out];rw[HK.out] at HZ;exact j0j HZ.out HN.out,q0f (HB.out.alloc HB.out.size _) _⟩
     case measure=>simp[intOf];omega
    ·go_wp2_with (fail);refine(HCON.out _).mono ?_;rintro e w' ⟨rfl,m,rfl⟩;go_wp2;go_ret2;refine⟨?_,q0f (HB.out.alloc HB.out.size _) _⟩;rw[HK.out] at HZ;have hfin:=z6d HZ.out (by rw[HN.out];exact hpos);rw[HN.out] at hfin;exact q2t hfin
   ·have HK:=η hk0;clear hk0;have h0:wr.cell? (ad'.add (k*2))=some (.int .i64 (1)):=by rw[HK.out];exact HCS.out 4 _ rfl
    have h1:wr.cell? ⟨(ad'.add (k*2)).block,(ad'.add (k*2)).off+1,none⟩=some (.func (.func 180) #[] #[.pointer (some ⟨c,0,none⟩)]):=by rw[HK.out,←q03 _ _ _ (by decide)];exact HCS.out 5 _ rfl
    have hcon:∀(o:Obj),Calls Tryz.prog 180 #[.string s,.pointer (some ⟨c,0,none⟩)] (wr.alloc o) fun e w'=>e=.returned (.int .i64 (Lx.run Lx.letter s.data.toList:Nat))∧∃ m,w'=(wr.alloc o).drewN m:=fun o=>by
     have hb2:=HB.out.alloc HB.out.size o;exact q5f Tryz.call172 z0g s c _ hsz ((hb2.cell (p:=⟨c,0,none⟩) lc).trans KC.out)
    have HCON:=η hcon;clear hcon;obtain⟨n,hn⟩:∃ n,Lx.run Lx.letter s.data.toList=n:=⟨_,rfl⟩;have HN:=η hn;rw[hn] at HCON;clear hn;rcases Nat.eq_zero_or_pos n with hz|hpos
    ·subst hz;go_wp2_with (fail);refine(HCON.out _).mono ?_;rintro e w' ⟨rfl,m,rfl⟩;go_wp2;go_roundw;case rel=>exact⟨k+1,by omega,by go_num,by rw[HK.out];rw[HK.out] at HZ;exact j0k HZ.out HN.out,q0f (HB.out.alloc HB.out.size _) _⟩
     case measure=>simp[intOf];omega
    ·go_wp2_with (fail);refine(HCON.out _).mono ?_;rintro e w' ⟨rfl,m,rfl⟩;go_wp2;go_ret2;refine⟨?_,q0f (HB.out.alloc HB.out.size _) _⟩;rw[HK.out] at HZ;have hfin:=z6e HZ.out (by rw[HN.out];exact hpos);rw[HN.out] at hfin;exact q2t hfin
   ·have HK:=η hk0;clear hk0;have h0:wr.cell? (ad'.add (k*2))=some (.int .i64 (2)):=by rw[HK.out];exact HCS.out 6 _ rfl
    have h1:wr.cell? ⟨(ad'.add (k*2)).block,(ad'.add (k*2)).off+1,none⟩=some (.func (.func 180) #[] #[.pointer (some ⟨d,0,none⟩)]):=by rw[HK.out,←q03 _ _ _ (by decide)];exact HCS.out 7 _ rfl
    have hcon:∀(o:Obj),Calls Tryz.prog 180 #[.string s,.pointer (some ⟨d,0,none⟩)] (wr.alloc o) fun e w'=>e=.returned (.int .i64 (Lx.run Lx.digit s.data.toList:Nat))∧∃ m,w'=(wr.alloc o).drewN m:=fun o=>by
     have hb2:=HB.out.alloc HB.out.size o;exact q5f Tryz.call173 z2m s d _ hsz ((hb2.cell (p:=⟨d,0,none⟩) ld).trans KD.out)
    have HCON:=η hcon;clear hcon;obtain⟨n,hn⟩:∃ n,Lx.run Lx.digit s.data.toList=n:=⟨_,rfl⟩;have HN:=η hn;rw[hn] at HCON;clear hn;rcases Nat.eq_zero_or_pos n with hz|hpos
    ·subst hz;go_wp2_with (fail);refine(HCON.out _).mono ?_;rintro e w' ⟨rfl,m,rfl⟩;go_wp2;go_roundw;case rel=>exact⟨k+1,by omega,by go_num,by rw[HK.out];rw[HK.out] at HZ;exact j0l HZ.out HN.out,q0f (HB.out.alloc HB.out.size _) _⟩
     case measure=>simp[intOf];omega
    ·go_wp2_with (fail);refine(HCON.out _).mono ?_;rintro e w' ⟨rfl,m,rfl⟩;go_wp2;go_ret2;refine⟨?_,q0f (HB.out.alloc HB.out.size _) _⟩;rw[HK.out] at HZ;have hfin:=z6f HZ.out (by rw[HN.out];exact hpos);rw[HN.out] at hfin;exact q2t hfin
   ·have HK:=η hk0;clear hk0;have h0:wr.cell? (ad'.add (k*2))=some (.int .i64 (3)):=by rw[HK.out];exact HCS.out 8 _ rfl
    have h1:wr.cell? ⟨(ad'.add (k*2)).block,(ad'.add (k*2)).off+1,none⟩=some (.func (.func 174) #[] #[]):=by rw[HK.out,←q03 _ _ _ (by decide)];exact HCS.out 9 _ rfl
    have hcon:∀(o:Obj),Calls Tryz.prog 174 #[.string s] (wr.alloc o) fun e w'=>e=.returned (.int .i64 (Lx.mark s.data.toList:Nat))∧∃ m,w'=(wr.alloc o).drewN m:=fun o=>by
     have hb2:=HB.out.alloc HB.out.size o;exact z82 s c0 r0 _ HS.out
    have HCON:=η hcon;clear hcon;obtain⟨n,hn⟩:∃ n,Lx.mark s.data.toList=n:=⟨_,rfl⟩;have HN:=η hn;rw[hn] at HCON;clear hn;rcases Nat.eq_zero_or_pos n with hz|hpos
    ·subst hz;go_wp2_with (fail);refine(HCON.out _).mono ?_;rintro e w' ⟨rfl,m,rfl⟩;go_wp2;go_roundw;case rel=>exact⟨k+1,by omega,by go_num,by rw[HK.out];rw[HK.out] at HZ;exact j0m HZ.out HN.out,q0f (HB.out.alloc HB.out.size _) _⟩
     case measure=>simp[intOf];omega
    ·go_wp2_with (fail);refine(HCON.out _).mono ?_;rintro e w' ⟨rfl,m,rfl⟩;go_wp2;go_ret2;refine⟨?_,q0f (HB.out.alloc HB.out.size _) _⟩;rw[HK.out] at HZ;have hfin:=z6g HZ.out (by rw[HN.out];exact hpos);rw[HN.out] at hfin;exact q2t hfin
  ·have HK:Hid (k=5):=by unfold Hid;omega
   have HB:=η hb;clear hb;go_wp2;go_ret2;refine⟨?_,HB.out⟩;rw[HK.out] at HZ;exact q2t (z6h HZ.out)
def tcells(l:List Lx.Tk):List Value:=l.flatMap fun t=>[.int .i64 t.kind,.string t.text,.int .i64 t.pos]
theorem q9y(l:List Lx.Tk):(tcells l).length=l.length*3:=by
 induction l with
 | nil=>rfl
 | cons e r ih=>simp only[tcells,List.flatMap_cons,List.length_append,List.length_cons,List.length_nil] at ih ⊢;omega
theorem q4r(l:List Lx.Tk)(t:Lx.Tk):tcells (l++[t])=tcells l++[.int .i64 t.kind,.string t.text,.int .i64 t.pos]:=by simp[tcells]
theorem q9m:∀(l:List Lx.Tk) (k:Nat) (t:Lx.Tk),l[k]? = some t→(tcells l)[k*3]? = some (.int .i64 t.kind)∧(tcells l)[k*3+1]? = some (.string t.text)∧(tcells l)[k*3+2]? = some (.int .i64 t.pos)
 | [],k,t,h=>by simp at h
 | e :: r,0,t,h=>by
  simp only[List.getElem?_cons_zero,Option.some.injEq] at h
  subst h
  exact⟨rfl,rfl,rfl⟩
 | e :: r,k+1,t,h=>by
  have ih:=q9m r k t (by simpa using h)
  have e0:tcells (e :: r)=[.int .i64 e.kind,.string e.text,.int .i64 e.pos]++tcells r:=by simp[tcells]
  rw[e0,List.getElem?_append_right (by simp;omega),List.getElem?_append_right (by simp;omega),List.getElem?_append_right (by simp;omega)]
  rw[show(k+1)*3 - [Value.int .i64 e.kind,.string e.text,.int .i64 e.pos].length=k*3 by simp;omega,show(k+1)*3+1 - [Value.int .i64 e.kind,.string e.text,.int .i64 e.pos].length=k*3+1 by simp;omega,show(k+1)*3+2 - [Value.int .i64 e.kind,.string e.text,.int .i64 e.pos].length=k*3+2 by simp;omega]
  exact ih
theorem q3e{w:World}{B:Nat}{A:Option Addr}{l:List Lx.Tk}{k:Nat}(h:Row w B A (tcells l))(hk:k<l.length):∃ ad t,A=some ad∧ad.block<B∧l[k]? = some t∧w.cell? (ad.add (k*3))=some (.int .i64 t.kind) ∧
  w.cell? ⟨(ad.add (k*3)).block,(ad.add (k*3)).off+1,none⟩=some (.string t.text)∧w.cell? ⟨(ad.add (k*3)).block,(ad.add (k*3)).off+2,none⟩=some (.int .i64 t.pos):=by
 obtain⟨ad,e,hb,hc⟩:=h (by intro e;have:=q9y l;rw[e] at this;simp at this;omega);have:=q9m l k l[k] (List.getElem?_eq_getElem hk);exact⟨ad,l[k],e,hb,List.getElem?_eq_getElem hk,hc _ _ this.1,by rw[←q03 _ _ _ (by decide)];exact hc _ _ this.2.1,by rw[←q03 _ _ _ (by decide)];exact hc _ _ this.2.2⟩
theorem ownT_row{W:World}{base sz k cn:Nat}{e:TypeId}{An:Option Addr}{xs:List Value}(h:W.ownsRow base e sz (.slice An k cn) k xs):Row W W.heap.size An xs∧k≤cn:=by
 have hown:=h;obtain⟨h1,h2⟩:=h;rcases h2 with⟨he,hk0⟩|⟨g,cap,cur,he,hb,hh,hkc,hcm,hcs,ht⟩
 ·injection he with e1 e2 e3;subst hk0;have:xs=[]:=List.eq_nil_of_length_eq_zero (by simpa using h1);subst this;exact⟨Row.nil,by omega⟩
 ·injection he with e1 e2 e3;subst e1 e3;have hg:=(Array.getElem?_eq_some_iff.1 hh).1;exact⟨fun _=>⟨_,rfl,hg,fun j u hu=>hown.cells rfl j u hu⟩,hkc⟩
theorem q0b{W:World}{base sz k:Nat}{e:TypeId}{v:Value}{xs:List Value}(h:W.ownsRow base e sz v k xs):∃ A c,v=.slice A k c:=by
 rcases h.2 with⟨he,hk0⟩|⟨g,cap,cur,he,_⟩
 ·exact⟨none,0,by rw[he,hk0]⟩
 ·exact⟨_,_,he⟩
theorem q1l{W w':World}{base sz k:Nat}{e:TypeId}{v:Value}{xs:List Value}(h:W.ownsRow base e sz v k xs)(hb:Below W.heap.size W w'):w'.ownsRow base e sz v k xs :=
 ⟨h.1,h.2.imp id fun⟨g,cap,cur,he,hb',hh,r⟩=>⟨g,cap,cur,he,hb',(hb.block g (Array.getElem?_eq_some_iff.1 hh).1).trans hh,r⟩⟩
theorem q0s{W:World}{base base' sz k:Nat}{e:TypeId}{v:Value}{xs:List Value}(h:W.ownsRow base e sz v k xs)(hb:base'≤base):W.ownsRow base' e sz v k xs :=
 ⟨h.1,h.2.imp id fun⟨g,cap,cur,he,hb',r⟩=>⟨g,cap,cur,he,Nat.le_trans hb hb',r⟩⟩
theorem q04(w:World)(xs:List Value)(t:TypeId):∀ j u,xs[j]? = some u→(w.alloc (.cells xs.toArray t)).cell? ((⟨w.heap.size,0,none⟩:Addr).add j)=some u:=by
 intro j u hu;have hb:=Blk.new w t xs.toArray;have e:(⟨w.heap.size,0,none⟩:Addr).add j=⟨w.heap.size,j,none⟩:=by unfold Addr.add;split<;>simp_all
 rw[e,hb.cell]
 simpa using hu
theorem Tryz.infoTok:(Tryz.prog.info? 150).map (fun i=>(i.zero,i.size,i.bytes))=some (some (.agg #[.int .i64 0,.string ByteArray.empty,.int .i64 0]),3,32):=by kernel_rfl
def IsToks(w:World)(B:Nat)(v:Value)(l:List Lx.Tk):Prop:=∃ A c,v=.slice A l.length c∧Row w B A (tcells l)∧l.length≤c
theorem IsToks.nil(w:World)(B:Nat):IsToks w B (.slice none 0 0) []:=⟨none,0,rfl,Row.nil,Nat.le_refl _⟩
def ToksAt(s:List UInt8)(k:Nat)(l:List Lx.Tk):Prop:=∃ n,s.length≤n+k∧Lx.toks s.length s 0=(l++(Lx.toks n (s.drop k) k).1,(Lx.toks n (s.drop k) k).2)
theorem ToksAt.start(s:List UInt8):ToksAt s 0 []:=⟨s.length,by omega,by simp⟩
theorem ToksAt.skip{s:List UInt8}{k:Nat}{l:List Lx.Tk}(h:ToksAt s k l)(hk:k<s.length)(h0:(Lx.first (s.drop k)).2≠0)(h1:(Lx.first (s.drop k)).1 = -1):ToksAt s (k+(Lx.first (s.drop k)).2) l:=by
 obtain⟨n,hn,e⟩:=h;obtain⟨n,rfl⟩:∃ n',n=n'+1:=⟨n-1,by omega⟩;rw[Lx.toks_skip (by intro e;have:=congrArg List.length e;simp at this;omega) h0 h1,List.drop_drop] at e;exact⟨n,by omega,e⟩
theorem ToksAt.take{s:List UInt8}{k:Nat}{l:List Lx.Tk}(h:ToksAt s k l)(hk:k<s.length)(h0:(Lx.first (s.drop k)).2≠0)(h1:(Lx.first (s.drop k)).1≠-1):ToksAt s (k+(Lx.first (s.drop k)).2) (l++[⟨(Lx.first (s.drop k)).1,Lx.pack ((s.drop k).take (Lx.first (s.drop k)).2),k⟩]):=by
 obtain⟨n,hn,e⟩:=h;obtain⟨n,rfl⟩:∃ n',n=n'+1:=⟨n-1,by omega⟩;rw[Lx.toks_take (by intro e;have:=congrArg List.length e;simp at this;omega) h0 h1,List.drop_drop] at e;exact⟨n,by omega,by rw[List.append_assoc];exact e⟩
theorem ToksAt.bad{s:List UInt8}{k:Nat}{l:List Lx.Tk}(h:ToksAt s k l)(h0:(Lx.first (s.drop k)).2=0):Lx.toks s.length s 0=(l,k):=by
 obtain⟨n,_,e⟩:=h;rw[Lx.toks_bad h0] at e
 simpa using e
theorem ToksAt.fin{s:List UInt8}{k:Nat}{l:List Lx.Tk}(h:ToksAt s k l)(hk:s.length≤k):Lx.toks s.length s 0=(l,k):=by
 obtain⟨n,_,e⟩:=h;rw[List.drop_eq_nil_of_le hk,Lx.toks_end] at e
 simpa using e
theorem Pieces.below{w w':World}{B:Nat}{ad:Addr}(h:Pieces w B ad)(hb:Below B w w'):Pieces w' B ad:=by
 obtain⟨a,b1,b2,b3,c,d,la,lb1,lb2,lb3,lc,ld,ka,kb1,kb2,kb3,kc,kd,hrow⟩:=h;exact⟨a,b1,b2,b3,c,d,la,lb1,lb2,lb3,lc,ld,(hb.cell (p:=⟨a,0,none⟩) la).trans ka,(hb.cell (p:=⟨b1,0,none⟩) lb1).trans kb1,(hb.cell (p:=⟨b2,0,none⟩) lb2).trans kb2,(hb.cell (p:=⟨b3,0,none⟩) lb3).trans kb3,(hb.cell (p:=⟨c,0,none⟩) lc).trans kc,(hb.cell (p:=⟨d,0,none⟩) ld).trans kd,hrow.below hb⟩
theorem Pieces.more{w:World}{B B':Nat}{ad:Addr}(h:Pieces w B ad)(hB:B≤B'):Pieces w B' ad:=by
 obtain⟨a,b1,b2,b3,c,d,la,lb1,lb2,lb3,lc,ld,ka,kb1,kb2,kb3,kc,kd,hrow⟩:=h;exact⟨a,b1,b2,b3,c,d,by omega,by omega,by omega,by omega,by omega,by omega,ka,kb1,kb2,kb3,kc,kd,hrow.more hB⟩
def ToksIn(w1:World)(v:Value)(l:List Lx.Tk)(wr:World):Prop:=wr.ownsRow w1.heap.size 150 3 v l.length (tcells l)∧Below w1.heap.size w1 wr
theorem ToksIn.step{w1:World}{v v':Value}{l:List Lx.Tk}{t:Lx.Tk}{wr w':World}{o:Obj}(h:ToksIn w1 v l wr)(hown:w'.ownsRow w1.heap.size 150 3 v' (l.length+1) (tcells l++[.int .i64 t.kind,.string t.text,.int .i64 t.pos]))(hg:(wr.alloc o).grownBy w' v.ownBlock):ToksIn w1 v' (l++[t]) w':=by
 obtain⟨h1,h2⟩:=h;refine⟨?_,?_⟩
 ·rw[q4r,List.length_append];exact hown
 ·have:=h2.size;exact(h2.alloc h2.size o).grown hg (by simp;omega) (fun k he=>(h1.lt k he).1)
theorem z33(n:Nat):∀(r:List UInt8) (k:Nat),(Lx.toks n r k).1.length≤n:=by
 induction n with
 | zero=>intro r k;simp[Lx.toks]
 | succ n ih =>
  intro r k;have:=ih (r.drop (Lx.first r).2) (k+(Lx.first r).2);unfold Lx.toks;split
  ·simp
  ·split
   ·simp
   ·split
    ·simp only;omega
    ·simp only[List.length_cons];omega
theorem ToksAt.len{s:List UInt8}{k:Nat}{l:List Lx.Tk}(h:ToksAt s k l):l.length≤s.length:=by
 obtain⟨n,_,e⟩:=h;have:=z33 s.length s 0;rw[e] at this;simp only[List.length_append] at this;omega
theorem z01(s:ByteArray)(k n:Nat):s.extract k (k+n)=Lx.pack ((s.data.toList.drop k).take n):=by
 rw[Lib.extract_eq];unfold Lx.pack;rw[Nat.add_sub_cancel_left]
theorem z5w(s:ByteArray)(w:World)(hsz:s.size≤2000) :
  Calls Tryz.prog 135 #[.string s] w fun e w'=>∃ v,e=.returned (.tuple #[v,.int .i64 ((Lx.toks s.data.toList.length s.data.toList 0).2:Nat)])∧w'.ownsRow w.heap.size 150 3 v (Lx.toks s.data.toList.length s.data.toList 0).1.length (tcells (Lx.toks s.data.toList.length s.data.toList 0).1)∧Below w.heap.size w w':=by
 obtain⟨i0,hi,hz0,hz1,hz2⟩:=info_parts Tryz.infoTok;go_enter Tryz.func135,Tryz.ntmps135;go_wp2_with (fail);refine(z46 w).mono ?_;rintro e w1 ⟨ad,rfl,hP,hb1⟩;have HP:=η hP;have HB1:=η hb1;clear hP hb1;go_wp2;go_loopw [4,6] (fun v i wr=>∃(l:List Lx.Tk) (k:Nat),k≤s.size∧i=.int .i64 k∧Hid (ToksAt s.data.toList k l)∧Hid (ToksIn w1 v l wr)) (fun _ i _=>s.size-(intOf i).toNat);case atStart=>exact⟨[],0,Nat.zero_le _,rfl,ToksAt.start _,World.ownsRow_nil _ _ _ _,Below.refl _ _⟩
 case round =>
  obtain⟨l,k,hk,rfl,HT,HI⟩:=hrel;by_cases hlt:k<s.size
  ·obtain⟨c0,r0,hdrop⟩:∃ c r,s.data.toList.drop k=c :: r:=by
    cases e:s.data.toList.drop k with
    | nil=>have:=congrArg List.length e;simp at this;rw[Lib.size_eq] at hlt;simp at hlt;omega
    | cons c r=>exact⟨c,r,rfl⟩
   have he:(s.extract k s.size).data.toList=s.data.toList.drop k:=by rw[Lib.extract_data,List.take_of_length_le (by rw[List.length_drop,Lib.size_eq];exact Nat.le_refl _)]
   have hcall:=z6b (s.extract k s.size) c0 r0 ad wr (by rw[he,hdrop]) (by rw[Lib.size_eq,he,List.length_drop,←Lib.size_eq];omega) ((HP.out.below HI.out.2).more HI.out.2.size);rw[he] at hcall;have hle:=Lx.first_le (s.data.toList.drop k);rw[List.length_drop,←Lib.size_eq] at hle;obtain⟨kd,n,hf⟩:∃ kd n,Lx.first (s.data.toList.drop k)=(kd,n):=⟨_,_,rfl⟩;rw[hf] at hcall hle;have HF:=η hf;have HC:=η hcall;dsimp only at hle;clear hcall hf he hdrop;by_cases hn0:n=0
   ·subst hn0;go_wp2_with (fail);refine HC.out.mono ?_;rintro e w2 ⟨rfl,hb2⟩;have HB2:=η hb2;clear hb2;go_wp2;go_ret2;have hfin:=HT.out.bad (by rw[HF.out]);rw[hfin];exact⟨_,rfl,q0s (q1l HI.out.1 HB2.out) HB1.out.size,(HB1.out.trans (HI.out.2.mono HB1.out.size)).trans (HB2.out.mono (by have:=HB1.out.size;have:=HI.out.2.size;omega))⟩
   ·have hn1:((n:Int)==0)=false:=by rw[beq_eq_false_iff_ne];omega
    by_cases hkd:kd = -1
    ·subst hkd;go_wp2_with (fail);refine HC.out.mono ?_;rintro e w2 ⟨rfl,hb2⟩;have HB2:=η hb2;clear hb2;go_wp2;go_roundw;case rel=>exact⟨l,k+n,by omega,by go_num,by have:=HT.out.skip (by rw[←Lib.size_eq];exact hlt) (by rw[HF.out];exact hn0) (by rw[HF.out]);rw[HF.out] at this;exact this,q1l HI.out.1 HB2.out,HI.out.2.trans (HB2.out.mono HI.out.2.size)⟩
     case measure=>simp[intOf];omega
    ·have hk1:(kd != -1)=true:=by rw[bne_iff_ne];exact hkd
     have HKD:=η hkd;clear hkd;go_wp2_with (fail);refine HC.out.mono ?_;rintro e w2 ⟨rfl,hb2⟩;have HI2:Hid (ToksIn w1 _ l w2):=⟨q1l HI.out.1 hb2,HI.out.2.trans (hb2.mono HI.out.2.size)⟩;have hown:=HI2.out.1;have hsz2:=HI2.out.2.size;have hlen:=HT.out.len;rw[←Lib.size_eq] at hlen;have hsl:∀ W:World,(Instr.slice 9 (.string s) (some (.int .i64 (k:Int))) (some (.int .i64 ((k:Int)+(n:Int)))) none).run Tryz.prog W=.ok (.string (s.extract k (k+n))) W:=fun W=>by
      have h:=run_slice_string (P:=Tryz.prog) (w:=W) 9 s .i64 .i64 (k:Int) ((k:Int)+(n:Int)) Tryz.underlying9 (by omega) (by omega) (by omega);rw[h,show((k:Int)+(n:Int)).toNat=k+n by omega,Int.toNat_natCast]
     clear hb2;go_wp2_with (at_builtin;refine wpList_append_own _ rfl _ _ 141 rfl w1.heap.size 150 i0 (.agg #[.int .i64 0,.string ByteArray.empty,.int .i64 0]) 3 32 Tryz.underlying141 hi hz0 hz1 hz2 rfl (by decide) _ _ _ rfl (hown.alloc _) ⟨w2.heap.size,0,none⟩ 1 1 [.int .i64 kd,.string (s.extract k (k+n)),.int .i64 (k:Int)] rfl rfl ?c1 ?c2 ?c3 ?c4 ?c5 ?_);case c1=>exact q04 _ _ _
     case c2=>simp[Value.oneCell']
     case c3=>unfold maxLen;omega
     case c4=>omega
     case c5=>simp;omega
     intro v' w' hown' hgrow _;have hst:=HI2.out.step (t:=⟨kd,s.extract k (k+n),k⟩) hown' hgrow;have HST:=η hst;clear hst hown' hgrow hown;go_wp2;go_roundw;case rel=>exact⟨l++[(⟨kd,s.extract k (k+n),(k:Int)⟩:Lx.Tk)],k+n,by omega,by go_num,by have:=HT.out.take (by rw[←Lib.size_eq];exact hlt) (by rw[HF.out];exact hn0) (by rw[HF.out];exact HKD.out);rw[HF.out] at this;rw[z01];exact this,HST⟩
     case measure=>simp[intOf];omega
  ·obtain rfl:k=s.size:=by omega
   go_wp2;go_ret2;have hfin:=HT.out.fin (by rw[←Lib.size_eq];exact Nat.le_refl _);rw[hfin];exact⟨_,rfl,q0s HI.out.1 HB1.out.size,HB1.out.trans (HI.out.2.mono HB1.out.size)⟩
def LexRes(w:World)(r:List Lx.Tk×Nat×Nat)(e:Ending)(w':World):Prop :=
 ∃ v,e=.returned (.tuple #[v,.int .i64 (r.2.1:Int),.int .i64 (r.2.2:Int)])∧IsToks w' w'.heap.size v r.1∧Below w.heap.size w w'
theorem LexRes.none{w w':World}(a n:Nat)(hb:Below w.heap.size w w'):LexRes w ([],a,n) (.returned (.tuple #[.slice none 0 0,.int .i64 (a:Int),.int .i64 (n:Int)])) w':=⟨_,rfl,IsToks.nil _ _,hb⟩
theorem z8y{s:List UInt8}(h:2000<s.length):Lx.lex s=([],0,8):=by unfold Lx.lex;rw[if_pos h]
theorem j07{s:List UInt8}(h:s.length≤2000)(h2:(Lx.toks s.length s 0).2<s.length):Lx.lex s=([],(Lx.toks s.length s 0).2,4):=by unfold Lx.lex;rw[if_neg (by omega),if_pos h2]
theorem z8z{s:List UInt8}(h:s.length≤2000)(h2:¬(Lx.toks s.length s 0).2<s.length)(h3:200<(Lx.toks s.length s 0).1.length+1):Lx.lex s=([],0,8):=by unfold Lx.lex;rw[if_neg (by omega),if_neg h2,if_pos h3]
theorem z8x{s:List UInt8}(h:s.length≤2000)(h2:¬(Lx.toks s.length s 0).2<s.length)(h3:(Lx.toks s.length s 0).1.length+1≤200):Lx.lex s=((Lx.toks s.length s 0).1++[⟨0,ByteArray.empty,((Lx.toks s.length s 0).2:Nat)⟩],0,0):=by unfold Lx.lex;rw[if_neg (by omega),if_neg h2,if_neg (by omega)]
theorem z3v(s:ByteArray)(w:World)(hm:s.size≤maxLen):Calls Tryz.prog 94 #[.string s] w (LexRes w (Lx.lex s.data.toList)):=by
 have HD:Hid (s.data.toList.length=s.size):=by unfold Hid;rw[←Lib.size_eq]
 unfold maxLen at hm;by_cases hs:s.size≤2000
 ·have hcall:=z5w s w hs;have hlen:=z33 s.data.toList.length s.data.toList 0;have hend:=(Lx.toks_told s.data.toList s.data.toList.length 0 (Nat.zero_le _)).le;rw[List.drop_zero] at hend;obtain⟨l,z,hT⟩:∃ l z,Lx.toks s.data.toList.length s.data.toList 0=(l,z):=⟨_,_,rfl⟩;rw[hT] at hcall hlen hend;dsimp only at hcall hlen hend;rw[HD.out] at hlen hend;have HT:=η hT;have HC:=η hcall;clear hT hcall;obtain⟨i0,hi,hz0,hz1,hz2⟩:=info_parts Tryz.infoTok;by_cases hz:z<s.size
  ·go_enter Tryz.func94,Tryz.ntmps94;go_wp2_with (fail);refine HC.out.mono ?_;rintro e w1 ⟨v,rfl,hown,hb⟩;obtain⟨A,c,rfl⟩:=q0b hown;have HB:=η hb;clear hb hown;go_wp2;go_ret3;rw[j07 (by rw[HD.out];exact hs) (by rw[HT.out,HD.out];exact hz),HT.out];exact LexRes.none z 4 HB.out
  ·by_cases hl:l.length+1≤200
   ·go_enter Tryz.func94,Tryz.ntmps94;go_wp2_with (fail);refine HC.out.mono ?_;rintro e w1 ⟨v,rfl,hown,hb⟩;have hsz1:=hb.size;have HB:=η hb;clear hb;go_wp2_with (at_builtin;refine wpList_append_own _ rfl _ _ 141 rfl w.heap.size 150 i0 (.agg #[.int .i64 0,.string ByteArray.empty,.int .i64 0]) 3 32 Tryz.underlying141 hi hz0 hz1 hz2 rfl (by decide) _ _ _ rfl (hown.alloc _) ⟨w1.heap.size,0,none⟩ 1 1 [.int .i64 0,.string ByteArray.empty,.int .i64 (z:Int)] rfl rfl ?c1 ?c2 ?c3 ?c4 ?c5 ?_);case c1=>exact q04 _ _ _
    case c2=>simp[Value.oneCell']
    case c3=>unfold maxLen;omega
    case c4=>omega
    case c5=>simp;omega
    intro v' w' hown' hgrow _;have hbw:Below w.heap.size w w':=(HB.out.alloc HB.out.size _).grown hgrow (by simp;omega) (fun k he=>(hown.lt k he).1);have hown2:w'.ownsRow w.heap.size 150 3 v' (l.length+1) (tcells (l++[⟨0,ByteArray.empty,(z:Int)⟩])):=by rw[q4r];exact hown'
    obtain⟨A,c,rfl⟩:=q0b hown2;have HO:=η (ownT_row hown2);have HBW:=η hbw;clear hown hown' hown2 hgrow hbw;go_wp2;go_ret3;rw[z8x (by rw[HD.out];exact hs) (by rw[HT.out,HD.out];exact hz) (by rw[HT.out];exact hl),HT.out];exact⟨_,rfl,⟨A,c,by simp,HO.out.1,by simpa using HO.out.2⟩,HBW.out⟩
   ·go_enter Tryz.func94,Tryz.ntmps94;go_wp2_with (fail);refine HC.out.mono ?_;rintro e w1 ⟨v,rfl,hown,hb⟩;have hsz1:=hb.size;have HB:=η hb;clear hb;go_wp2_with (at_builtin;refine wpList_append_own _ rfl _ _ 141 rfl w.heap.size 150 i0 (.agg #[.int .i64 0,.string ByteArray.empty,.int .i64 0]) 3 32 Tryz.underlying141 hi hz0 hz1 hz2 rfl (by decide) _ _ _ rfl (hown.alloc _) ⟨w1.heap.size,0,none⟩ 1 1 [.int .i64 0,.string ByteArray.empty,.int .i64 (z:Int)] rfl rfl ?c1 ?c2 ?c3 ?c4 ?c5 ?_);case c1=>exact q04 _ _ _
    case c2=>simp[Value.oneCell']
    case c3=>unfold maxLen;omega
    case c4=>omega
    case c5=>simp;omega
    intro v' w' hown' hgrow _;have hbw:Below w.heap.size w w':=(HB.out.alloc HB.out.size _).grown hgrow (by simp;omega) (fun k he=>(hown.lt k he).1);have hown2:w'.ownsRow w.heap.size 150 3 v' (l.length+1) (tcells (l++[⟨0,ByteArray.empty,(z:Int)⟩])):=by rw[q4r];exact hown'
    obtain⟨A,c,rfl⟩:=q0b hown2;have HO:=η (ownT_row hown2);have HBW:=η hbw;clear hown hown' hown2 hgrow hbw;go_wp2;go_ret3;rw[z8z (by rw[HD.out];exact hs) (by rw[HT.out,HD.out];exact hz) (by rw[HT.out];show 200<l.length+1;omega)];exact LexRes.none 0 8 HBW.out
 ·go_enter Tryz.func94,Tryz.ntmps94;go_wp2;go_ret3;rw[z8y (by rw[HD.out];omega)];exact LexRes.none 0 8 (Below.refl _ _)
end Go.Proofs.YtjobifclmcdjcaaGreatDoor
