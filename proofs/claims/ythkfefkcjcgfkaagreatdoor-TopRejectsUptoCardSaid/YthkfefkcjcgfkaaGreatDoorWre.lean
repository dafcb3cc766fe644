/-  -/
import Derived.Lib.AppendStr
import Derived.Test.YthkfefkcjcgfkaaGreatDoorWa1
import Derived.Test.YthkfefkcjcgfkaaGreatDoorWa5
import Derived.Test.YthkfefkcjcgfkaaGreatDoorWa6
set_option linter.all false

