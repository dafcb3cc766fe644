/- - -/
import Derived.Test.YthpfpkikmaiddaaGreatDoorZte
set_option linter.all false

