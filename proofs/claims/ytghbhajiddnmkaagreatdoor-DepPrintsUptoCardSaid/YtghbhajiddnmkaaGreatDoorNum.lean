/- (nothing but what stands below it) -/
import Derived.Test.YtghbhajiddnmkaaGreatDoorRest
import Derived.Test.YtghbhajiddnmkaaGreatDoorShelf
