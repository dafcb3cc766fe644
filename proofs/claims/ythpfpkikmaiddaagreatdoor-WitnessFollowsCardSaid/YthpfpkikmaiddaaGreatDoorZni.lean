/- - -/
import Derived.Great.BuildSlice
import Derived.Test.YthpfpkikmaiddaaGreatDoorZng
set_option linter.all false

