/-
  The program's functions of layer 7, together.
-/
import Derived.Test.YtehieeahiicnhaaGlobCovers
