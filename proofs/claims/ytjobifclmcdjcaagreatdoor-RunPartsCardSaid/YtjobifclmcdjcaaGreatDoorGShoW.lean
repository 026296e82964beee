/- The words in memory; things of a pile in memory. -/
import Derived.Deep.RegionWith
import Derived.StillTailTactics
import Derived.Test.YtjobifclmcdjcaaGreatDoorGLexP
import Derived.Test.YtjobifclmcdjcaaGreatDoorGRulA
namespace Go.Proofs.YtjobifclmcdjcaaGreatDoor
set_option maxRecDepth 100000
open Go.RowKit Go.Shelf

/-- A region that draws, whose tail is forced: its world named by the draw. -/
theorem still_tail_drew {P : Program} {id : Nat} {Q : Exit → Act → World → Prop} {a : Act} {w : World} {l : List Oper} (n : Nat) (hm : P.follows .mixedOrders = true) (hB : Region.lexTailB .any l.toArray n = true)
    (h : wpStill P l.toArray w.drew (fun a' => wpList P l.toArray Q (l.drop n) a' w.drew) (l.take n) a) : (Code.region id l.toArray true).wp P Q a w := wp_region_still_tail n hm hB h
end Go.Proofs.YtjobifclmcdjcaaGreatDoor
