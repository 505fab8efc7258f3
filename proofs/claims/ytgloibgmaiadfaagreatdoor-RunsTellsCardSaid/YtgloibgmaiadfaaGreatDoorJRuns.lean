/- The landed runs, by contracts: All, Where, May, Put, Push, New. -/
import Derived.Test.YtgloibgmaiadfaaGreatDoorJPut
import Derived.Test.YtgloibgmaiadfaaGreatDoorJNewL
import Derived.Test.YtgloibgmaiadfaaGreatDoorJMade

