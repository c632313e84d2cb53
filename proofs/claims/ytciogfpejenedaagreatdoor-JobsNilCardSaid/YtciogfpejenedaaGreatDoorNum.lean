/- (nothing but what stands below it) -/
import Derived.Test.YtciogfpejenedaaGreatDoorRest
import Derived.Test.YtciogfpejenedaaGreatDoorShelf
