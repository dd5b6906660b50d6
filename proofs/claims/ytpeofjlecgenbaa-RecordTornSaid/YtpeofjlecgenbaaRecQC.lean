/- What the frame imports. -/
import Derived.Test.YtpeofjlecgenbaaRecJ
import Derived.Test.YtpeofjlecgenbaaRecR
import Derived.Test.YtpeofjlecgenbaaB2
