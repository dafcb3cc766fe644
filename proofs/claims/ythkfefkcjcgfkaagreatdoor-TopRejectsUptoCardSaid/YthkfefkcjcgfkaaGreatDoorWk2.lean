/-  -/
import Derived.Test.YthkfefkcjcgfkaaGreatDoorWk1
import Derived.Test.YthkfefkcjcgfkaaGreatDoorWos
set_option linter.all false

