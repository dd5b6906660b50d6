/- MetaBases: what its frame imports. -/
import Derived.Test.YtbpdnaiackfdmaaMetR
import Derived.Test.YtbpdnaiackfdmaaMetS
