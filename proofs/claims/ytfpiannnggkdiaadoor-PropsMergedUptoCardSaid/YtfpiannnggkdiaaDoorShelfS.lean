/- The shelf's texts of this seat. -/
import Derived.Test.YtfpiannnggkdiaaDoorShelf

