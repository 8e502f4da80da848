/- The library contracts of this seat lie in Shelf. -/
import Derived.Test.YtggnocajpnmemaaGreatDoorShelf

