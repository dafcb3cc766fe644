/-  -/
import Derived.Test.YthkfefkcjcgfkaaGreatDoorWre
set_option linter.all false

