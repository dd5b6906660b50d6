/- What the frames of tally's laws import. -/
import Derived.Test.YtcehdgdgjjecmaaB3
