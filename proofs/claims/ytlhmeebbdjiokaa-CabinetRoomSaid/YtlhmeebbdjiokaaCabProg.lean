/-
  The program's cabinet as the walks of layer 9 ask it: one term.
-/
import Derived.Test.YtlhmeebbdjiokaaCabPCrash
namespace Go.Proofs.Ytlhmeebbdjiokaa
open Go.ChangeShapes Go.WideShapes Go.ChangeAt Go.RowKit Go.Maps
set_option linter.unusedVariables false
def progP : CabP := {
  At := ProgAt
  keep := fun h ha hd => h.keep ha hd
  lt := fun h => h.lt
  new := fun w z => pnew_any w z
  create := fun w g O c n nm h hg hn hs => pcreate_any w g O c n nm h hg hn hs
  append := fun w g O c n nm B a len cap h hg hn hs hrow hnil hout hlen => pappend_any w g O c n nm B a len cap h hg hn hs hrow hnil hout hlen
  sync := fun w g O c n nm h hg hn hs => psync_any w g O c n nm h hg hn hs
  rename := fun w g O c n old nm h hg hn ho hs => prename_any w g O c n old nm h hg hn ho hs
  remove := fun w g O c n nm h hg hn hs => premove_any w g O c n nm h hg hn hs
  turn := fun w g O c n h hg hn => pturn_any w g O c n h hg hn
  read := fun w g O c n nm h hg hn hs => pread_any w g O c n nm h hg hs
  list := fun w g O c n h hg hn => plist_any w g O c n h hg hn
  used := fun w g O c n h hg hn => pused_any w g O c n h hg
  fail := fun w g O c n z h hg hn hz => pfail_any w g O c n z h
  crash := fun w g O c n names keep t tn a len cap h hg hn ht hk hd hl => pcrash_any w g O c n names keep t tn a len cap h hg hn ht hk hd hl }
end Go.Proofs.Ytlhmeebbdjiokaa
