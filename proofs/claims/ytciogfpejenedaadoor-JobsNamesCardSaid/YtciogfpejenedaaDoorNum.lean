/- (nothing but what stands below it) -/
import Derived.Test.YtciogfpejenedaaDoorRest
import Derived.Test.YtciogfpejenedaaDoorShelf
