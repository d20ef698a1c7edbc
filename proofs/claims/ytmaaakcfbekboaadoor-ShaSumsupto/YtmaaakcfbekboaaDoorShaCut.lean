/-
  The way in which two ways through an 'if' meet again (a text of the library, imported by a name of our own).
-/
import Derived.Test.YtmaaakcfbekboaaDoorShaFlat
import Derived.Deep.DeepCutAuto
