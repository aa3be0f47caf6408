/- What the code's From, Do and Alike return. -/
import Derived.Test.YtnpejnjigaalfaaDoorRunFrom
import Derived.Test.YtnpejnjigaalfaaDoorRunAlike
import Derived.Test.YtnpejnjigaalfaaDoorRunDo
