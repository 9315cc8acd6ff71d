/- What stands below the book. -/
import Derived.Test.YtiglmffnhbegiaaDoorHRLent
