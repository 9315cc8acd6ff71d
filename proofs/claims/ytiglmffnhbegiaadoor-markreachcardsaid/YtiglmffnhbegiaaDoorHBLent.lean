/- Shim. -/
import Derived.Test.YtiglmffnhbegiaaDoorHRLent
