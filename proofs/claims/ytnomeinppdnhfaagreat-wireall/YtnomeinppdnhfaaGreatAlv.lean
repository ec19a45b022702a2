/- Between the sets and what is handed in. -/
import Derived.Test.YtnomeinppdnhfaaGreatHas
