/-  -/
import Derived.Lib.AppendStr
import Derived.Test.YthkfefkcjcgfkaaGreatDoorWa3
import Derived.Test.YthkfefkcjcgfkaaGreatDoorWa5
import Derived.Test.YthkfefkcjcgfkaaGreatDoorWb5
import Derived.Test.YthkfefkcjcgfkaaGreatDoorWa7
import Derived.Test.YthkfefkcjcgfkaaGreatDoorWa8
set_option linter.all false

