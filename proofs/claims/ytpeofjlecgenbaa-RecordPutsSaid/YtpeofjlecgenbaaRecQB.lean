/- What the frame imports. -/
import Derived.Test.YtpeofjlecgenbaaRecI
import Derived.Test.YtpeofjlecgenbaaRecR
