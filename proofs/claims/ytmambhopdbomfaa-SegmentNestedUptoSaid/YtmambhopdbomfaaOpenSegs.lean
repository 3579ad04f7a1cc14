/- Arguments that are texts, bytes, slices of texts and signs. -/
import Derived.Test.YtmambhopdbomfaaOpenStrs
import Derived.Test.YtmambhopdbomfaaOpenSgn
