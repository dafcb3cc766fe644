/-  -/
import Derived.Test.YtiblkfkeifnpaaaGreatDoorZmf
import Derived.Test.YtiblkfkeifnpaaaGreatDoorZmg
set_option linter.all false

