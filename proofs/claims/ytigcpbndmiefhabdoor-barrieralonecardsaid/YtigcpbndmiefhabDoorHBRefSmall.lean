/- (Not in this program.) -/
import Derived.Test.YtigcpbndmiefhabDoorHBRefs
