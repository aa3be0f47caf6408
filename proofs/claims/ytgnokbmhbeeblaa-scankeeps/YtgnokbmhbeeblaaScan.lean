/- All that the code's own functions return. -/
import Derived.Test.YtgnokbmhbeeblaaScanTry
