/- All that the laws ask of the program, of the landed object. -/
import Derived.Test.YtallblnkgmioeaaPrl
import Derived.Test.YtallblnkgmioeaaFlp
namespace Go.Proofs.Ytallblnkgmioeaa.st
open Go.ChangeShapes Go.WideShapes Go.ChangeAt Go.RowKit Go.Proofs.Ytallblnkgmioeaa.hp Go.Proofs.Ytallblnkgmioeaa.bt
set_option linter.unusedVariables false

theorem waysB : Ways Bt where
  keep := fun h k hn => h.keep k hn
  facts := fun h => h.facts
  new0 := new_no
  new1 := new_yes
  copy := fun h => copy_any h
  flip := fun h hl hK hd hll => oflip_any h hl hK hd hll
  len := fun h => len_any h
  live := fun b h => live_any b h
  bytes := fun h => obytes_any h
  parse := fun w n v b hv hb hl => parse_any w n hv hb hl

end Go.Proofs.Ytallblnkgmioeaa.st
