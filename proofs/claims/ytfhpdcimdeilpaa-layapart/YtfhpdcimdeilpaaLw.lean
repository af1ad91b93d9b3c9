/- What the laws ask of the program: all of it. -/
import Derived.Test.YtfhpdcimdeilpaaLg
import Derived.Test.YtfhpdcimdeilpaaLd
namespace Go.Proofs.Ytfhpdcimdeilpaa.st
open Go.ChangeShapes Go.WideShapes Go.ChangeAt Go.RowKit Go.Proofs.Ytfhpdcimdeilpaa.hp Go.Proofs.Ytfhpdcimdeilpaa.tells
set_option linter.unusedVariables false
set_option linter.unusedSimpArgs false

theorem waysL : Ways where
  may := fun w I a len c A C Z R hl B hB => may_any w I a len c A C Z R hl B hB
  of0 := fun w I a len c A C Z R hl hM => of_no w I a len c A C Z R hl hM
  of1 := fun w I a len c A C Z R hl hM => by
    refine (of_yes w I a len c A C Z R hl hM).mono ?_
    rintro e w' ⟨a', n', c', he, k⟩
    refine ⟨a', n', c', ?_, k⟩
    rw [he, natC_val hM.1]
  pay := fun w K hK a n c => pay_any w K hK a n c
  cell := fun w K hK a n c => cell_any w K hK a n c
  slots := fun w K hK a n c => slots_any w K hK a n c
  batch := fun w K hK a n c i => batch_any w K a n c i
  logl := fun w K hK a n c => logl_any w K a n c
  deltal := fun w K hK a n c => delta_any w K hK a n c
  fulll := fun w K hK a n c => full_any w K hK a n c
  clogl := fun w K hK a n c => clogl_any w K hK a n c
  log := fun w K hK a n c i _ => logA_any w K hK a n c i
  clog := fun w K hK a n c i _ => clogA_any w K hK a n c i
  delta := fun w K hK a n c i hi => deltaA_any w K hK a n c i hi
  full := fun w K hK a n c i hi => fullA_any w K hK a n c i hi
  check := fun w K hK a n c i hi => checkA_any w K hK a n c i hi
  bucket := fun w K hK a n c b v => bucketA_any w K hK a n c b v
  total := fun w K hK a n c => total_any w K hK a n c
  tick := fun w K hK a n c i hi => tickA_any w K hK a n c i hi
  recov := fun w K hK a n c i j hi hj => recA_any w K hK a n c i j hi hj
  make := fun w K hK a n c => make_any w K hK a n c

end Go.Proofs.Ytfhpdcimdeilpaa.st
