/-
  Package parse as it has landed, as the walks of stage 7's statements use it: Re and Check. Conditions: those that each names.
-/
import Derived.Test.YtbiempopfmpohaaPwEnd
import Derived.Test.YtbiempopfmpohaaPwChk
