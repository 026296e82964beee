import Derived.Handy
import Derived.BigQuiet
import Derived.Test.YtjobifclmcdjcaaGreatDoorQZLexP
import Derived.Test.YtjobifclmcdjcaaGreatDoorQZPub
import Derived.Test.YtjobifclmcdjcaaGreatDoorQZRulA
set_option maxHeartbeats 64000000
set_option maxRecDepth 100000
namespace Go.Proofs.YtjobifclmcdjcaaGreatDoor
open Go.RowKit Go.Shelf
def jv:Jg.Th→Value
 | .c b=>.iface 176 (.bool b)
 | .l n=>.iface 177 (.int .i64 (n:Int))
theorem j2e(b:Bool)(w:World):(Instr.typeAssert (.iface 176 (.bool b)) 173 176 true).run Tryz.prog w=.ok (.tuple #[.bool b,.bool true]) w:=by kernel_rfl
theorem j2f(n:Int)(w:World):(Instr.typeAssert (.iface 177 (.int .i64 n)) 173 176 true).run Tryz.prog w=.ok (.tuple #[.bool false,.bool false]) w:=by kernel_rfl
theorem j2g(n:Int)(w:World):(Instr.typeAssert (.iface 177 (.int .i64 n)) 173 177 true).run Tryz.prog w=.ok (.tuple #[.int .i64 n,.bool true]) w:=by kernel_rfl
theorem j2h(w:World):(Instr.typeAssert .nilIface 173 176 true).run Tryz.prog w=.ok (.tuple #[.bool false,.bool false]) w:=by kernel_rfl
theorem j2i(w:World):(Instr.typeAssert .nilIface 173 177 true).run Tryz.prog w=.ok (.tuple #[.int .i64 0,.bool false]) w:=by kernel_rfl
theorem q8k(b:Bool)(w:World):Calls Tryz.prog 131 #[.iface 176 (.bool b)] w fun e w'=>e=.returned (.tuple #[.bool b,.int .i64 0])∧w=w':=by
 have h1:=j2e b w;go_enter Tryz.func131,Tryz.ntmps131;go_wp2;go_ret2;exact⟨rfl,rfl⟩
theorem q8l(n:Int)(w:World):Calls Tryz.prog 131 #[.iface 177 (.int .i64 n)] w fun e w'=>e=.returned (.tuple #[.bool false,.int .i64 n])∧w=w':=by
 have h1:=j2f n w;have h2:=j2g n w;go_enter Tryz.func131,Tryz.ntmps131;go_wp2;go_ret2;exact⟨rfl,rfl⟩
theorem q87(w:World):Calls Tryz.prog 131 #[.nilIface] w fun e w'=>e=.returned (.tuple #[.bool false,.int .i64 0])∧w=w':=by
 have h1:=j2h w;have h2:=j2i w;go_enter Tryz.func131,Tryz.ntmps131;go_wp2;go_ret2;exact⟨rfl,rfl⟩
def jops(up:List Nat)(labs:List Int):Jg.Ops where
 fl:=Lat.fl up
 jn:=fun a b=>Lat.leastN up (Lat.joinS up a b)
 mt:=fun a b=>Lat.leastN (Lat.turned up) (Lat.joinS (Lat.turned up) a b)
 bot:=Lat.leastN up (Lat.allS up.length)
 top:=Lat.leastN (Lat.turned up) (Lat.allS up.length)
 lab:=fun k=>(labs.getD k 0).toNat
theorem q3u{names:List ByteArray}{up:List Nat}{a b:Nat}(hz:checkN names up=0)(ha:a<up.length)(hb:b<up.length):labN names up a b=0:=by
 unfold labN isLab;rw[if_pos hz,if_pos (by simp;omega)]
theorem z6j{names:List ByteArray}{up:List Nat}{a b:Nat}(hz:checkN names up=0)(ha:a<up.length)(hb:b<up.length):flowsR names up a b=Lat.fl up a b:=by
 unfold flowsR;rw[if_pos (q3u hz ha hb)];rfl
theorem z8s{names:List ByteArray}{up:List Nat}{a b:Nat}(hz:checkN names up=0)(ha:a<up.length)(hb:b<up.length):joinR names up a b=Lat.leastN up (Lat.joinS up a b):=by
 unfold joinR;rw[if_pos (q3u hz ha hb)];rfl
theorem z86{names:List ByteArray}{up:List Nat}{a b:Nat}(hz:checkN names up=0)(ha:a<up.length)(hb:b<up.length):meetR names up a b=Lat.leastN (Lat.turned up) (Lat.joinS (Lat.turned up) a b):=by
 unfold meetR;rw[if_pos (q3u hz ha hb)];rfl
def JGave(w:World)(x:Jg.Th)(e:Ending)(w':World):Prop:=e=.returned (jv x)∧Below w.heap.size w w'
theorem j19{v:Value}{names:List ByteArray}{up:List Nat}(labs:List Int)(a b:Bool)(n:Int)(hn:n=3∨n=4)(w:World)(h:IsLat w w.heap.size v names up) :
  Calls Tryz.prog 209 #[.bool a,v,.int .i64 n,.iface 176 (.bool b)] w (JGave w (Jg.two (jops up labs) n (.c a) (.c b))):=by
 obtain⟨⟨A,A',c,c',rfl,hN,hU⟩,-,-,-⟩:=h;have hb0:Below w.heap.size w (w.alloc (.cells #[.slice A names.length c,.slice A' up.length c'] 25)):=(Below.refl _ w).alloc (Nat.le_refl _) _;have HB0:=η hb0;have hap:=q8k b;clear hb0 hN hU;rcases hn with rfl|rfl;all_goals
  go_enter Tryz.func209,Tryz.ntmps209;go_wp2_with (fail);refine(hap _).mono ?_;rintro e w1 ⟨rfl,rfl⟩;cases a;all_goals
   go_wp2;go_ret;exact⟨rfl,HB0.out⟩
theorem j2a{v:Value}{names:List ByteArray}{up:List Nat}(labs:List Int)(a b:Nat)(n:Int)(hn:n=5∨n=12∨n=13)(w:World)(h:IsLat w w.heap.size v names up)(hz:checkN names up=0)(ha:a<up.length)(hb:b<up.length) :
  Calls Tryz.prog 210 #[.int .i64 (a:Int),v,.int .i64 n,.iface 177 (.int .i64 (b:Int))] w (JGave w (Jg.two (jops up labs) n (.l a) (.l b))):=by
 have h1:=fun o=>z5z a b _ (h.boxed o)
 have h2:=fun o=>z71 a b _ (h.boxed o)
 have h3:=fun o=>z72 a b _ (h.boxed o)
 rw[z6j hz ha hb,q3u hz ha hb] at h1;rw[z8s hz ha hb,q3u hz ha hb] at h2;rw[z86 hz ha hb,q3u hz ha hb] at h3;obtain⟨⟨A,A',c,c',rfl,hN,hU⟩,-,-,-⟩:=h;have hb0:Below w.heap.size w (w.alloc (.cells #[.slice A names.length c,.slice A' up.length c'] 25)):=(Below.refl _ w).alloc (Nat.le_refl _) _;have HB0:=η hb0;have hap:=q8l b;have H1:=η (h1 (.cells #[.slice A names.length c,.slice A' up.length c'] 25));have H2:=η (h2 (.cells #[.slice A names.length c,.slice A' up.length c'] 25));have H3:=η (h3 (.cells #[.slice A names.length c,.slice A' up.length c'] 25));have hE1:jv (Jg.two (jops up labs) 5 (.l a) (.l b))=.iface 176 (.bool (Lat.fl up a b)):=rfl;have hE2:jv (Jg.two (jops up labs) 12 (.l a) (.l b))=.iface 177 (.int .i64 (Lat.leastN up (Lat.joinS up a b):Nat)):=rfl;have hE3:jv (Jg.two (jops up labs) 13 (.l a) (.l b))=.iface 177 (.int .i64 (Lat.leastN (Lat.turned up) (Lat.joinS (Lat.turned up) a b):Nat)):=rfl;have HE1:=η hE1;have HE2:=η hE2;have HE3:=η hE3;clear hb0 hN hU h1 h2 h3 hE1 hE2 hE3;unfold JGave;rcases hn with rfl|rfl|rfl
 ·rw[HE1.out];generalize Lat.fl up a b=x at *;go_enter Tryz.func210,Tryz.ntmps210;go_wp2_with (fail);refine(hap _).mono ?_;rintro e w1 ⟨rfl,rfl⟩;go_wp2_with (fail);refine H1.out.mono ?_;rintro e w2 ⟨rfl,hb2⟩;have HB2:=η hb2;clear hb2;go_wp2;go_ret;exact⟨rfl,HB0.out.trans (HB2.out.mono (by simp))⟩
 ·rw[HE2.out];generalize Lat.leastN up (Lat.joinS up a b)=x at *;go_enter Tryz.func210,Tryz.ntmps210;go_wp2_with (fail);refine(hap _).mono ?_;rintro e w1 ⟨rfl,rfl⟩;go_wp2_with (fail);refine H2.out.mono ?_;rintro e w2 ⟨rfl,hb2⟩;have HB2:=η hb2;clear hb2;go_wp2;go_ret;exact⟨rfl,HB0.out.trans (HB2.out.mono (by simp))⟩
 ·rw[HE3.out];generalize Lat.leastN (Lat.turned up) (Lat.joinS (Lat.turned up) a b)=x at *;go_enter Tryz.func210,Tryz.ntmps210;go_wp2_with (fail);refine(hap _).mono ?_;rintro e w1 ⟨rfl,rfl⟩;go_wp2_with (fail);refine H3.out.mono ?_;rintro e w2 ⟨rfl,hb2⟩;have HB2:=η hb2;clear hb2;go_wp2;go_ret;exact⟨rfl,HB0.out.trans (HB2.out.mono (by simp))⟩
end Go.Proofs.YtjobifclmcdjcaaGreatDoor
