/-  -/
import Derived.Test.YtiblkfkeifnpaaaGreatDoorZop
import Derived.Test.YtiblkfkeifnpaaaGreatDoorZa5
set_option linter.all false

