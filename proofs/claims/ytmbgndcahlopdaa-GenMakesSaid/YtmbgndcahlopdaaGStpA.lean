/- Walks of slices.Clone at instructions, atoms and slots, and of package step's must and copied (by gen_stpa.py). -/
import Derived.Laws.IdiomCopy
import Derived.Lib.SlBuf
import Derived.Lib.SliceRun
import Derived.WalkSmall
import Derived.StillTail
import Derived.Handy
import Derived.Test.YtmbgndcahlopdaaGCodE
import Derived.Test.YtmbgndcahlopdaaGNotG
import Derived.Test.YtmbgndcahlopdaaGCodP
import Derived.Test.YtmbgndcahlopdaaGShoW
namespace Go.Proofs.Ytmbgndcahlopdaa
set_option maxRecDepth 100000
open Go.RowKit Go.Shelf
attribute [local go_sem] Oper.semAt_some

end Go.Proofs.Ytmbgndcahlopdaa

/- The machine of package step in memory: its struct, and the rows that are its own; what keeps it. -/
namespace Go.Proofs.Ytmbgndcahlopdaa
set_option maxRecDepth 100000
open Go.RowKit Go.Shelf
attribute [local go_sem] Oper.semAt_some

/-- Where the machine's rows lie. -/
structure MV where
  cA : Option Addr
  cc : Nat
  mA : Option Addr
  mc : Nat
  sA : Option Addr
  sc : Nat
  oA : Option Addr
  oc : Nat
  gA : Option Addr
  gc : Nat
/-- What does not change of a machine: its base, its place, its lattice. -/
structure MB where
  B : Nat
  g : Nat
  N : Option Addr
  U : Option Addr
  c1 : Nat
  c2 : Nat
  names : List ByteArray
  up : List Nat
end Go.Proofs.Ytmbgndcahlopdaa

/- Walks of the machine's methods cell, put, putResult. -/
namespace Go.Proofs.Ytmbgndcahlopdaa
set_option maxRecDepth 100000
open Go.RowKit Go.Shelf
attribute [local go_sem] Oper.semAt_some
end Go.Proofs.Ytmbgndcahlopdaa
