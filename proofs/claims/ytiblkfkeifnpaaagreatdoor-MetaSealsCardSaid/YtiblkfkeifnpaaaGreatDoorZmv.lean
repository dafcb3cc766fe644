/-  -/
import Derived.Test.YtiblkfkeifnpaaaGreatDoorZmj
set_option linter.all false

