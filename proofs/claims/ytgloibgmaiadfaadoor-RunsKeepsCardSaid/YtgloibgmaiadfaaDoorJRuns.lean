/- The landed runs, by contracts: All, Where, May, Put, Push, New. -/
import Derived.Test.YtgloibgmaiadfaaDoorJPut
import Derived.Test.YtgloibgmaiadfaaDoorJNewL
import Derived.Test.YtgloibgmaiadfaaDoorJMade

