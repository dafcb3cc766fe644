/-  -/
import Derived.Test.YtiblkfkeifnpaaaGreatDoorZme
set_option linter.all false

