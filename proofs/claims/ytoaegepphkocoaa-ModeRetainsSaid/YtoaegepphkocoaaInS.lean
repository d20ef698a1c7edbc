/-
  A region that draws its order, whose operations only read, over whatever class of worlds: the callees may do what leaves the world in the class. (As go_quiet, which has the class 'after some draws'.) At the region: 'have hne := InS.some hS; refine wp_region_in (S := S) (by kernel_rfl) (by kernel_rfl) hS ?_; repeat (go_big_quiet_step (refine Calls.in_of (H _))); refine wpQuiet_nil ?_; intro _ hw; obtain ..'; the facts: '∀ p : InS S, p.w.cell? .. = ..'.
-/
import Derived.Test.YtoaegepphkocoaaWords
import Derived.Deep.QuietTactic
import Derived.BigQuiet
namespace Go.Proofs.Ytoaegepphkocoaa
open Go.ChangeShapes Go.WideShapes Go.ChangeAt Go.RowKit
set_option linter.unusedVariables false
def InS (S : World → Prop) : Type := { w : World // S w }
def InS.w {S : World → Prop} (p : InS S) : World := p.1
theorem InS.h {S : World → Prop} (p : InS S) : S p.w := p.2
theorem InS.some {S : World → Prop} {w : World} (h : S w) : Nonempty (InS S) := ⟨⟨w, h⟩⟩
theorem wp_region_in {P : Program} {S : World → Prop} {id : Nat} {Q : Exit → Act → World → Prop} {a : Act} {w : World} {l : List Oper} (hm : P.follows .mixedOrders = true) (hB : Region.lexB .any l.toArray = true) (hS : S w.drew)
    (h : wpQuiet P l.toArray (fun w' => ∃ p : InS S, w' = p.w) (fun a' => ∀ w', (∃ p : InS S, w' = p.w) → Q .normal a' w') l a) : (Code.region id l.toArray true).wp P Q a w :=
  wp_region_quiet (C := fun w' => ∃ p : InS S, w' = p.w) hm hB ⟨⟨w.drew, hS⟩, rfl⟩ (by simpa using h)
theorem Calls.in_of {P : Program} {S : World → Prop} {f : FuncId} {args : Array Value} {p : InS S} {v : Value} (h : Calls P f args p.w fun e w' => e = .returned v ∧ S w') :
    Calls P f args p.w fun e w'' => e = .returned v ∧ ∃ q : InS S, w'' = q.w :=
  h.mono fun _ w'' ⟨he, hS⟩ => ⟨he, ⟨w'', hS⟩, rfl⟩
end Go.Proofs.Ytoaegepphkocoaa
