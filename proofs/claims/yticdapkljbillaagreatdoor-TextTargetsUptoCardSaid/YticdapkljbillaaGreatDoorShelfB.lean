/- Nothing of its own: the contracts of library functions stand in the module that it imports. -/
import Derived.Test.YticdapkljbillaaGreatDoorShelf
