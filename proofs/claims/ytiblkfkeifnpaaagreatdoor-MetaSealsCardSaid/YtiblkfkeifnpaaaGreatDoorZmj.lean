/-  -/
import Derived.Test.YtiblkfkeifnpaaaGreatDoorZmh
import Derived.Test.YtiblkfkeifnpaaaGreatDoorZmi
set_option linter.all false

