/-  -/
import Derived.Test.YthkfefkcjcgfkaaGreatDoorWop
import Derived.Test.YthkfefkcjcgfkaaGreatDoorWb0
set_option linter.all false

