/- Arguments that are heads; the laid table of versions. -/
import Derived.Test.YtodgcmjdnfbegaaDoorOpenMsh
import Derived.Test.YtodgcmjdnfbegaaDoorOpenHead
