/- The walks of the book: Put. -/
import Derived.Test.YtjohkmkgmbihkaaDoorBookC
import Derived.Deep.RegionHeld3
import Derived.Deep.RegionWith
import Derived.Deep.DrawnRows
namespace Go.Proofs.YtjohkmkgmbihkaaDoor
set_option linter.unusedVariables false
open Go.ChangeShapes Go.WideShapes Go.ChangeAt Go.RowKit

attribute [local go_sem ↓] Go.wp_at_zero Go.wp_at_succ

theorem Ext.keep1 {w w' : World} (hx : Ext w w') {a : Addr} {u : Value} (h : w.cell? a = some u) : w'.cell? a = some u := (hx.cell (World.block_lt_of_cell? w a h)).trans h

end Go.Proofs.YtjohkmkgmbihkaaDoor
