/-  -/
import Derived.Test.YthkfefkcjcgfkaaGreatDoorWop
import Derived.Test.YthkfefkcjcgfkaaGreatDoorWa5
set_option linter.all false

