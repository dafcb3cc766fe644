/-  -/
import Derived.Test.YtiblkfkeifnpaaaGreatDoorZmc
import Derived.Test.YtiblkfkeifnpaaaGreatDoorZmd
set_option linter.all false

