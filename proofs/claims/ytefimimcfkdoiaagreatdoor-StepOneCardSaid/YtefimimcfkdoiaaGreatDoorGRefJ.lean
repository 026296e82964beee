import Derived.Handy
import Derived.Deep.Cut
import Derived.LoopTactic
import Derived.Test.YtefimimcfkdoiaaGreatDoorGRulA
import Derived.Test.YtefimimcfkdoiaaGreatDoorGShoA
set_option maxHeartbeats 64000000
set_option maxRecDepth 100000
namespace Go.Proofs.YtefimimcfkdoiaaGreatDoor
open Go.RowKit Go.Shelf
section
variable {w W W':World}
end
section
variable {A A2:Option Addr} {l:List Lx.Tk} {c p m c2:Nat} {d:Int}
end
section
variable {w W W':World} {v1 v2:Value} {p d e:Int}
end
section
variable {A A2:Option Addr} {c c2:Nat} {S:Nat→Prop}
end
section
variable {w W:World} {v1 v2:Value} {p d e:Int}
end
section
variable {A A2:Option Addr} {c c2:Nat} {l:List Lx.Tk} {S:Nat→Prop}
end
section
variable {A A2:Option Addr} {c c2 o:Nat} {l:List Lx.Tk} {S:Nat→Prop} {more:Rl.St→Rl.Res} {wd:ByteArray}
end
section
variable {A:Option Addr} {l:List Lx.Tk} {c o:Nat} {part:Rl.St→Rl.Res} {w0:World}
end
section
variable {A A2:Option Addr} {l:List Lx.Tk} {c p m c2:Nat} {d:Int}
end
end Go.Proofs.YtefimimcfkdoiaaGreatDoor
namespace Go.Proofs.YtefimimcfkdoiaaGreatDoor
open Go.RowKit Go.Shelf
attribute [local go_sem] Oper.semAt_some
section
variable {A A2:Option Addr} {c c2:Nat} {l:List Lx.Tk} {S:Nat→Prop}
end
section
variable {b:Nat} {S:Nat→Prop} {A:Option Addr} {c:Nat} {r:Rl.Res} {W W':World} {v:Value} {l:List Lx.Tk}
end
section
variable {A A2:Option Addr} {c c2:Nat} {l:List Lx.Tk} {S:Nat→Prop}
end
section
variable {A:Option Addr} {l:List Lx.Tk} {c:Nat} {w0:World}
end
section
variable {A A0 A1 A2:Option Addr} {l:List Lx.Tk} {c i n0 c0 n1 c1 n2 c2:Nat}
end
end Go.Proofs.YtefimimcfkdoiaaGreatDoor
