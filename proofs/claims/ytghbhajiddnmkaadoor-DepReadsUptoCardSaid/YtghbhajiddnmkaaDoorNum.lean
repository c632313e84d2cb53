/- (nothing but what stands below it) -/
import Derived.Test.YtghbhajiddnmkaaDoorRest
import Derived.Test.YtghbhajiddnmkaaDoorShelf
