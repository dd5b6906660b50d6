/- What the frame imports. -/
import Derived.Test.YtpeofjlecgenbaaRecK
import Derived.Test.YtpeofjlecgenbaaRecR
