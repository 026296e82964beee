import Derived.Deep.MidRow
import Derived.Test.YtjobifclmcdjcaaGreatDoorQZTabE
set_option maxHeartbeats 64000000
set_option maxRecDepth 100000
namespace Go.Proofs.YtjobifclmcdjcaaGreatDoor
open Go.RowKit Go.Shelf
attribute [local go_sem] Oper.semAt_some
def insL:List Value:=[.string (Tb.word 0),.int .i64 0,.string (Tb.word 1),.int .i64 1,.string (Tb.word 2),.int .i64 1,.string (Tb.word 3),.int .i64 2,.string (Tb.word 4),.int .i64 2,.string (Tb.word 5),.int .i64 2,.string (Tb.word 6),.int .i64 3,.string (Tb.word 7),.int .i64 1,.string (Tb.word 8),.int .i64 1,.string (Tb.word 9),.int .i64 1,.string (Tb.word 10),.int .i64 2,.string (Tb.word 11),.int .i64 1,.string (Tb.word 12),.int .i64 0]
theorem j1q(k:Nat)(hk:k<13)(w:World):(Instr.index 194 (.agg insL.toArray) (.int .i64 (k:Int))).run Tryz.prog w=.ok (.agg #[.string (Tb.word k),.int .i64 (Tb.arity k:Nat)]) w:=by
 rcases Tb.op_cases hk with rfl|rfl|rfl|rfl|rfl|rfl|rfl|rfl|rfl|rfl|rfl|rfl|rfl;all_goals kernel_rfl
theorem z6a{s:ByteArray}(h:∀ j,j<13→Tb.word j≠s):Tb.find s=none:=by
 unfold Tb.find;rw[List.find?_eq_none];intro j hj
 simpa using h j (List.mem_range.1 hj)
theorem z8j{s:ByteArray}{k:Nat}(hk:k<13)(h:Tb.word k=s):Tb.find s=some k:=by
 subst h;exact Tb.find_word hk
def Found(w:World)(r:Option Nat)(e:Ending)(w':World):Prop:=e=.returned (.tuple #[.int .i64 ((r.getD 0:Nat):Int),.bool r.isSome])∧Below w.heap.size w w'
theorem z6n{w:World}(h:Ins w):w.rangeAt 0 0 insL:=fun j v e=>by
 rw[Nat.zero_add]
 have key:∀(k:Nat),k<13→∀(e:Nat),e<2→insL[k*2+e]? = w.cell? ⟨0,k*2+e,none⟩:=fun k hk e he=>by
  rcases(by omega:e=0∨e=1) with rfl|rfl
  ·rw[Nat.add_zero,(h k hk).1]
   rcases Tb.op_cases hk with rfl|rfl|rfl|rfl|rfl|rfl|rfl|rfl|rfl|rfl|rfl|rfl|rfl<;>rfl
  ·rw[(h k hk).2]
   rcases Tb.op_cases hk with rfl|rfl|rfl|rfl|rfl|rfl|rfl|rfl|rfl|rfl|rfl|rfl|rfl<;>rfl
 have hj:=(List.getElem?_eq_some_iff.1 e).1
 have h26:insL.length=26:=rfl
 have:=key (j / 2) (by omega) (j % 2) (by omega)
 rw[show j / 2*2+j % 2=j by omega,e] at this
 exact this.symm
theorem z7s(s:ByteArray)(w:World)(hi:Ins w):Calls Tryz.prog 175 #[.string s] w (Found w (Tb.find s)):=by
 have hrg:=z6n hi;have hix:=fun(k:Nat) (hk:k<13) w=>j1q k hk w
 have hlen:insL.length=26:=rfl;have hw0:=hi.lt;obtain⟨cs,hcs⟩:∃ cs,insL=cs:=⟨_,rfl⟩;rw[hcs] at hrg hix hlen;have hsz:(Tryz.prog.info? 194).map (·.size)=some cs.length:=by rw[hlen];kernel_rfl
 have HRG:=η hrg;have HSZ:=η hsz;have HIX:=η hix;clear hi hcs hrg hsz hix hlen;go_enter Tryz.func175,Tryz.ntmps175;go_wp2_with (refine wpList_load_mid rfl 194 (.global 0) rfl 0 0 rfl cs _ HRG.out Tryz.underlying194 rfl HSZ.out ?_);go_wp2;go_loopw [7] (fun i wr=>∃(k:Nat),k≤13∧i=.int .i64 k∧Hid (∀ j,j<k→Tb.word j≠s)∧Hid (Below w.heap.size w wr)) (fun i _=>13-(intOf i).toNat);case atStart=>exact⟨0,by decide,rfl,η fun j hj=>absurd hj (by omega),η (Below.refl _ _)⟩
 case round =>
  obtain⟨k,hk,rfl,HO,HB⟩:=hrel;by_cases hlt:k<13
  ·have hix2:=fun w=>HIX.out k hlt w
   have hz:=HB.out.size;by_cases he:Tb.word k=s
   ·have HF:=η (z8j hlt he);have hbe:((Tb.word k).toList==s.toList)=true:=by rw[q4v];exact decide_eq_true he
    clear he;generalize Tb.word k=x at *;generalize Tb.arity k=a at *;go_wp2;go_ret2;rw[HF.out];exact⟨rfl,HB.out.alloc hz _⟩
   ·have HO2:Hid (∀ j,j<k+1→Tb.word j≠s):=η fun j hj=>by
     by_cases e:j=k
     ·subst e;exact he
     ·exact HO.out j (by omega)
    have hbe:((Tb.word k).toList==s.toList)=false:=by rw[q4v];exact decide_eq_false he
    clear he;generalize Tb.word k=x at *;generalize Tb.arity k=a at *;have HB2:=fun o=>η (HB.out.alloc hz o)
    go_wp2;go_roundw;case rel=>exact⟨k+1,by omega,by go_num,HO2,HB2 _⟩
    case measure=>simp[intOf];omega
  ·obtain rfl:k=13:=by omega
   have HF:=η (z6a HO.out);go_wp2;go_ret2;rw[HF.out];exact⟨rfl,HB.out⟩
section
variable {R Q P b0 b1 b2 c:Nat} {A:Option Addr} {l:List Lx.Tk} {s:Tb.St}
def ToldW(R Q P b0 b1 b2:Nat)(A:Option Addr)(c:Nat)(l:List Lx.Tk)(w:World)(r:Tb.St×Nat×Nat)(e:Ending)(w':World):Prop :=
 e=.returned (.tuple #[.int .i64 (r.2.1:Nat),.int .i64 (r.2.2:Nat)])∧TRd R Q P b0 b1 b2 A c l r.1 w'∧Kept R Q w w'
theorem z5i(s:Tb.St)(op:Nat):(rcells A l.length c P Q s).set (4+op) (.bool true)=rcells A l.length c P Q { s with had:=s.had.set op true }:=by
 unfold rcells;rw[List.set_append_right _ _ (by simp)];have:[Value.slice A l.length c,.int .i64 (s.pos:Int),.slice (some ⟨P,0,none⟩) 3 3,.slice (some ⟨Q,0,none⟩) 13 13].length=4:=rfl;rw[this,show 4+op-4=op by omega,List.map_set]
theorem z7w(hf:Fast R Q P b0 b1 b2)(hfi:Tb.Fine l)(w:World)(h:TRd R Q P b0 b1 b2 A c l s w)(hl:l.length≤200) :
  Calls Tryz.prog 155 #[.pointer (some ⟨R,0,none⟩)] w (ToldW R Q P b0 b1 b2 A c l w (Tb.wordP l s)):=by
 have hn:=q3y w h;have hstand:=Tb.wordP_stand hfi h.st;have hpos:=h.st.pos;unfold Tb.wordP at hstand ⊢;unfold tkv at hn;generalize Tb.tok l s.pos=t at *;obtain⟨kd,tx,ps⟩:=t;dsimp only at hn hstand ⊢;have H:=η h;have HN:=η hn;by_cases hk:kd=1
 ·subst hk;rw[if_pos rfl] at hstand ⊢;have hfind:∀ W,TRd R Q P b0 b1 b2 A c l s W→Calls Tryz.prog 175 #[.string tx] W (Found W (Tb.find tx)):=fun W hW=>z7s tx W hW.ins
  cases hq:Tb.find tx with
  | none =>
   rw[hq] at hfind;have HF:=η hfind;clear h hn hstand hfind hq;dsimp only;go_enter Tryz.func155,Tryz.ntmps155;go_wp2_with (fail);refine HN.out.mono ?_;rintro e w1 ⟨rfl,hb1⟩;have hb2:=hb1.alloc hb1.size (.cells #[.int .i64 1,.string tx,.int .i64 ps] 150);have HFC:=η (HF.out _ (H.out.keep hf hb2));have HB2:=η hb2;clear hb1 hb2;go_wp2_with (fail);refine HFC.out.mono ?_;rintro e w2 ⟨rfl,hb3⟩;have hb4:=HB2.out.trans (hb3.mono HB2.out.size);have HT:=η (H.out.keep hf hb4);have HK:=η (Kept.of (R:=R) (Q:=Q) hb4);clear hb3 hb4;dsimp only[Option.getD,Option.isSome];go_wp2;go_ret2;exact⟨rfl,HT.out,HK.out⟩
  | some op =>
   have hop:=(Tb.find_some hq).1;rw[hq] at hfind hstand;dsimp only at hstand ⊢;have HF:=η hfind;by_cases hh:s.had.getD op false=true
   ·rw[if_pos hh];have HH:=η hh;clear h hn hstand hfind hq hh;go_enter Tryz.func155,Tryz.ntmps155;go_wp2_with (fail);refine HN.out.mono ?_;rintro e w1 ⟨rfl,hb1⟩;have hb2:=hb1.alloc hb1.size (.cells #[.int .i64 1,.string tx,.int .i64 ps] 150);have HFC:=η (HF.out _ (H.out.keep hf hb2));have HB2:=η hb2;clear hb1 hb2;go_wp2_with (fail);refine HFC.out.mono ?_;rintro e w2 ⟨rfl,hb3⟩;have hb4:=HB2.out.trans (hb3.mono HB2.out.size);have hT:=H.out.keep hf hb4;have hcd:=hT.had hop;rw[HH.out] at hcd;have HT:=η hT;have HK:=η (Kept.of (R:=R) (Q:=Q) hb4);clear hb3 hb4 hT;dsimp only[Option.getD,Option.isSome];go_wp2;go_ret2;exact⟨rfl,HT.out,HK.out⟩
   ·rw[if_neg hh] at hstand ⊢;have hh2:s.had.getD op false=false:=by simpa using hh
    have HH:=η hh2;have HS:=η hstand;have HHL:=η (show s.had.length=13 from h.st.had);clear h hn hstand hfind hq hh hh2;go_enter Tryz.func155,Tryz.ntmps155;go_wp2_with (fail);refine HN.out.mono ?_;rintro e w1 ⟨rfl,hb1⟩;have hb2:=hb1.alloc hb1.size (.cells #[.int .i64 1,.string tx,.int .i64 ps] 150);have HFC:=η (HF.out _ (H.out.keep hf hb2));have HB2:=η hb2;clear hb1 hb2;go_wp2_with (fail);refine HFC.out.mono ?_;rintro e w2 ⟨rfl,hb3⟩;have hb4:=HB2.out.trans (hb3.mono HB2.out.size);have hT:=H.out.keep hf hb4;have hcd:=hT.had hop;rw[HH.out] at hcd;have hfz:w2.frozen? ⟨R,4+op,none⟩=false:=hT.blk.frozen _;have hfz1:w2.frozen? ⟨R,1,none⟩=false:=hT.blk.frozen _;have hc1:=hT.c1;have hT2:=hT.set_ hf (u:=.bool true) (z5i s op) rfl ⟨hT.st.pos,hT.st.rows,by rw[List.length_set];exact HHL.out⟩;have hT3:=hT2.set_ hf (q22 _ (s.pos+1)) rfl HS.out;rw[show((s.pos+1:Nat):Int)=(s.pos:Int)+1 by omega] at hT3;have HT:=η hT3;have HK:=η (((Kept.of (R:=R) (Q:=Q) hb4).set_ (p:=⟨R,4+op,none⟩) (.inl rfl) (.bool true)).set_ (p:=⟨R,1,none⟩) (.inl rfl) (.int .i64 ((s.pos:Int)+1)));clear hb3 hb4 hT hT2 hT3;dsimp only[Option.getD,Option.isSome];go_wp2;go_ret2;exact⟨rfl,HT.out,HK.out⟩
 ·rw[if_neg hk] at hstand ⊢;have hbe:(kd != 1)=true:=by rw[bne_iff_ne];exact hk
  clear h hn hstand hk;go_enter Tryz.func155,Tryz.ntmps155;go_wp2_with (fail);refine HN.out.mono ?_;rintro e w1 ⟨rfl,hb1⟩;have hb2:=hb1.alloc hb1.size (.cells #[.int .i64 kd,.string tx,.int .i64 ps] 150);have HT:=η (H.out.keep hf hb2);have HK:=η (Kept.of (R:=R) (Q:=Q) hb2);clear hb1 hb2;go_wp2;go_ret2;exact⟨rfl,HT.out,HK.out⟩
end
end Go.Proofs.YtjobifclmcdjcaaGreatDoor
