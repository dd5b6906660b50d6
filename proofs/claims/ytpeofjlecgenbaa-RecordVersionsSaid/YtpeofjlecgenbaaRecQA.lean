/- What the frame imports. -/
import Derived.Test.YtpeofjlecgenbaaRecEZ
import Derived.Test.YtpeofjlecgenbaaRecR
