/- Tokens over plain data: a text's bytes as a list. Over no program. -/
import Derived.Lib.Strings
import Derived.Lib.Join
import Derived.Test.YtmbgndcahlopdaaGBase
namespace Go.Proofs.Ytmbgndcahlopdaa
set_option maxRecDepth 100000
namespace Lx

def blank (c : UInt8) : Bool := c == 9 || c == 10 || c == 32
def inLine (c : UInt8) : Bool := c != 10
def letter (c : UInt8) : Bool := decide (97 ≤ c) && decide (c ≤ 122)
def digit (c : UInt8) : Bool := decide (48 ≤ c) && decide (c ≤ 57)
def run (p : UInt8 → Bool) (r : List UInt8) : Nat := (r.takeWhile p).length
def comment : List UInt8 → Nat
  | [] => 0
  | c :: r => if c = 35 then 1 + run inLine r else 0
def marks : List UInt8 := [40, 41, 91, 93, 59, 58, 44, 60, 62, 64, 45, 61]
def mark : List UInt8 → Nat
  | [] => 0
  | c :: r => if c = 60 ∧ r.head? = some 61 then 2 else if marks.contains c then 1 else 0
/-- What a text begins with: its kind (-1: left out), and how many bytes (0: a wrong byte). -/
def first (r : List UInt8) : Int × Nat :=
  if 0 < run blank r then (-1, run blank r)
  else if 0 < comment r then (-1, comment r)
  else if 0 < run letter r then (1, run letter r)
  else if 0 < run digit r then (2, run digit r)
  else if 0 < mark r then (3, mark r) else (-1, 0)

structure Tk where
  kind : Int
  text : ByteArray
  pos : Int

def pack (l : List UInt8) : ByteArray := ⟨l.toArray⟩
/-- A text's tokens from a place on, and where they end (the end, or the first wrong byte). -/
def toks : Nat → List UInt8 → Nat → List Tk × Nat
  | 0, _, k => ([], k)
  | n + 1, r, k =>
    if r = [] then ([], k)
    else if (first r).2 = 0 then ([], k)
    else (if (first r).1 = -1 then (toks n (r.drop (first r).2) (k + (first r).2)).1
          else ⟨(first r).1, pack (r.take (first r).2), k⟩ :: (toks n (r.drop (first r).2) (k + (first r).2)).1,
          (toks n (r.drop (first r).2) (k + (first r).2)).2)
/-- The whole of Lex: the tokens, a place, an error's number. -/
def lex (s : List UInt8) : List Tk × Nat × Nat :=
  if 2000 < s.length then ([], 0, 8)
  else if (toks s.length s 0).2 < s.length then ([], (toks s.length s 0).2, 4)
  else if 200 < (toks s.length s 0).1.length + 1 then ([], 0, 8)
  else ((toks s.length s 0).1 ++ [⟨0, ByteArray.empty, ((toks s.length s 0).2 : Nat)⟩], 0, 0)

end Lx
end Go.Proofs.Ytmbgndcahlopdaa

/- Rules over plain data: what tokens tell, and what is made right. Over no program. -/
namespace Go.Proofs.Ytmbgndcahlopdaa
set_option maxRecDepth 100000
namespace Rl
open Lx (Tk)

/-- How far tokens are read, how many brackets are open, and the rule so far. -/
structure St where
  pos : Nat
  deep : Nat
  out : List Int
/-- A state, and an error's number (0: none). -/
abbrev Res := St × Nat

abbrev wTrue : ByteArray := { data := #[116, 114, 117, 101] }
abbrev wFalse : ByteArray := { data := #[102, 97, 108, 115, 101] }
abbrev wAnd : ByteArray := { data := #[97, 110, 100] }
abbrev wOr : ByteArray := { data := #[111, 114] }
abbrev wFlows : ByteArray := { data := #[60, 61] }
abbrev wJoin : ByteArray := { data := #[106, 111, 105, 110] }
abbrev wMeet : ByteArray := { data := #[109, 101, 101, 116] }
abbrev wOpen : ByteArray := { data := #[40] }
abbrev wShut : ByteArray := { data := #[41] }
abbrev wOpenL : ByteArray := { data := #[91] }
abbrev wShutL : ByteArray := { data := #[93] }
/-- What each word puts. -/
def table : List (ByteArray × Int) :=
  [(wTrue, 1), (wFalse, 2), (wAnd, 3), (wOr, 4), (wFlows, 5), ({ data := #[98, 111, 116] }, 6), ({ data := #[116, 111, 112] }, 7), ({ data := #[112, 99] }, 8),
   ({ data := #[111, 110, 101] }, 9), ({ data := #[116, 119, 111] }, 10), ({ data := #[116, 104, 114, 101, 101] }, 11), (wJoin, 12), (wMeet, 13)]
def look (s : ByteArray) : List (ByteArray × Int) → Int
  | [] => 0
  | (k, n) :: r => if k = s then n else look s r
def opOf (s : ByteArray) : Int := look s table
/-- Is a token a word or a mark of a text? -/
def isN (l : List Tk) (k : Nat) (w : ByteArray) : Bool :=
  match l[k]? with
  | some t => decide ((t.kind = 1 ∨ t.kind = 3) ∧ t.text = w)
  | none => false
def adv (s : St) : St := { s with pos := s.pos + 1 }
def put (op : Int) (s : St) : Res := if s.out.length = 40 then (s, 8) else ({ s with out := s.out ++ [op] }, 0)
def loop (l : List Tk) (more : St → Res) (w : ByteArray) : Nat → St → Res
  | 0, s => (s, 0)
  | n + 1, s => if isN l s.pos w = true then
      (if (more (adv s)).2 = 0 then
        (if (put (opOf w) (more (adv s)).1).2 = 0 then loop l more w n (put (opOf w) (more (adv s)).1).1 else put (opOf w) (more (adv s)).1)
       else more (adv s))
    else (s, 0)
def rows (l : List Tk) (part : St → Res) : List ByteArray → St → Res
  | [], s => part s
  | w :: ws, s => if (rows l part ws s).2 = 0 then loop l (rows l part ws) w l.length (rows l part ws s).1 else rows l part ws s
def into (s : St) : St := { s with pos := s.pos + 1, deep := s.deep + 1 }
def outof (s : St) : St := { s with pos := s.pos + 1, deep := s.deep - 1 }
def inside (l : List Tk) (part : St → Res) (fin : ByteArray) (s : St) : Res :=
  if s.deep = 12 then (s, 5)
  else if (part (into s)).2 = 0 then
    (if isN l (part (into s)).1.pos fin = true then (outof (part (into s)).1, 0) else ((part (into s)).1, 4))
  else part (into s)
/-- What an atom's word puts: 0, if a token is none. -/
def word (l : List Tk) (k : Nat) : Int :=
  match l[k]? with
  | some t => if t.kind = 1 ∧ 6 ≤ opOf t.text ∧ opOf t.text ≤ 11 then opOf t.text else 0
  | none => 0
def atom (l : List Tk) (lab : St → Res) (s : St) : Res :=
  if isN l s.pos wOpenL = true then inside l lab wShutL s
  else if word l s.pos = 0 then (s, 4) else put (word l s.pos) (adv s)
def label (l : List Tk) : Nat → St → Res
  | 0, s => (s, 5)
  | d + 1, s => rows l (atom l (label l d)) [wJoin, wMeet] s
def flow (l : List Tk) (lab : St → Res) (s : St) : Res :=
  if (lab s).2 = 0 then
    (if isN l (lab s).1.pos wFlows = true then
      (if (lab (adv (lab s).1)).2 = 0 then put 5 (lab (adv (lab s).1)).1 else lab (adv (lab s).1))
     else ((lab s).1, 4))
  else lab s
def prim (l : List Tk) (cnd lab : St → Res) (s : St) : Res :=
  if isN l s.pos wTrue = true then put 1 (adv s)
  else if isN l s.pos wFalse = true then put 2 (adv s)
  else if isN l s.pos wOpen = true then inside l cnd wShut s
  else flow l lab s
def cond (l : List Tk) : Nat → St → Res
  | 0, s => (s, 5)
  | d + 1, s => rows l (prim l (cond l d) (label l (d + 1))) [wOr, wAnd] s
def read (l : List Tk) (lab : Bool) (i : Nat) : Res := if lab then label l 13 ⟨i, 0, []⟩ else cond l 13 ⟨i, 0, []⟩

/-- A pile's last two things, and what is put in their place. -/
def two (pile : List Bool) (take put : Bool) : Option (List Bool) :=
  if 2 ≤ pile.length ∧ pile[pile.length - 2]? = some take ∧ pile[pile.length - 1]? = some take then some (pile.take (pile.length - 2) ++ [put]) else none
def step (pile : List Bool) (n : Int) : Option (List Bool) :=
  if n = 1 ∨ n = 2 then some (pile ++ [false])
  else if 6 ≤ n ∧ n ≤ 11 then some (pile ++ [true])
  else if n = 3 ∨ n = 4 then two pile false false
  else if n = 5 then two pile true false
  else if n = 12 ∨ n = 13 then two pile true true
  else none
def pileOf : List Bool → List Int → Option (List Bool)
  | p, [] => some p
  | p, n :: r => (step p n).bind fun q => pileOf q r
def right (rule : List Int) (lab : Bool) : Bool := decide (rule.length ≤ 40 ∧ pileOf [] rule = some [lab])
end Rl
end Go.Proofs.Ytmbgndcahlopdaa

/- What is told, read again up to its end alone, is the same. Over no program. -/
namespace Go.Proofs.Ytmbgndcahlopdaa
set_option maxRecDepth 100000
namespace Rl
open Lx (Tk)

/-- A state, told from i on. -/
def sh (i : Nat) (s : St) : St := { s with pos := s.pos - i }
end Rl
end Go.Proofs.Ytmbgndcahlopdaa

/- Tokens over plain data: they stand where they are told; joined, and read again, they are the same. -/
namespace Go.Proofs.Ytmbgndcahlopdaa
set_option maxRecDepth 100000
end Go.Proofs.Ytmbgndcahlopdaa

/- Rules as trees, and their texts; what Lex makes of such a text. Over no program. -/
namespace Go.Proofs.Ytmbgndcahlopdaa
set_option maxRecDepth 100000
namespace Sh
open Rl (St Res opOf)

/- What Lex makes of it. -/
open Lx (first letter run pack)
end Sh
end Go.Proofs.Ytmbgndcahlopdaa

/- What is written is read as the same rule. Over no program. -/
namespace Go.Proofs.Ytmbgndcahlopdaa
set_option maxRecDepth 100000
namespace Sh
open Rl (St Res opOf isN loop rows adv put into outof inside)
open Lx (Tk)


/- Labels. -/
/- Conditions. -/
end Sh
end Go.Proofs.Ytmbgndcahlopdaa

/- What is made right is one tree; what tokens tell is one that is not too deep, and no longer than the tokens. Over no program. -/
namespace Go.Proofs.Ytmbgndcahlopdaa
set_option maxRecDepth 100000
namespace Sh
open Rl (St Res opOf isN loop rows adv put into outof inside)
open Lx (Tk)

/- One tree. -/
/- What tokens tell. -/
end Sh
end Go.Proofs.Ytmbgndcahlopdaa

/- Rows of a table as text and as tokens; a rule read in the middle of tokens. Over no program. -/
namespace Go.Proofs.Ytmbgndcahlopdaa
set_option maxRecDepth 100000
end Go.Proofs.Ytmbgndcahlopdaa

/- Things of two piles: what a rule's numbers make of them, and how large they get. Over no program. -/
namespace Go.Proofs.Ytmbgndcahlopdaa
set_option maxRecDepth 100000
end Go.Proofs.Ytmbgndcahlopdaa
