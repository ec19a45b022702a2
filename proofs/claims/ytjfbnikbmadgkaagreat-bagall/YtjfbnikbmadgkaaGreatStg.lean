/- What kp wants of the bags' texts. -/
import Derived.Test.YtjfbnikbmadgkaaGreatBge
