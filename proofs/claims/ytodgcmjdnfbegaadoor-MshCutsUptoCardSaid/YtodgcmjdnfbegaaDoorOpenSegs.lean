/- Arguments that are texts, bytes, slices of texts and signs. -/
import Derived.Test.YtodgcmjdnfbegaaDoorOpenStrs
import Derived.Test.YtodgcmjdnfbegaaDoorOpenSgn
