/- (nothing but what stands below it) -/
import Derived.Test.YtinldjjbfhpnkaaDoorRest
import Derived.Test.YtinldjjbfhpnkaaDoorShelf
