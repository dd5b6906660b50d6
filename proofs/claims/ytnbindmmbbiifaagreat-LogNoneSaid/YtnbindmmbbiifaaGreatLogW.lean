/- what LogNone needs, behind its frame -/
import Derived.Test.YtnbindmmbbiifaaGreatB6
import Derived.Test.YtnbindmmbbiifaaGreatRecR
import Derived.Test.YtnbindmmbbiifaaGreatGeoR
