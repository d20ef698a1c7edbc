/-
  What the laws of layer 8 lean on: tags that come in, tags or an error as one.
-/
import Derived.Test.YtbfgkogmojnilaaDoorTagBackN
import Derived.Test.YtbfgkogmojnilaaDoorTagOverN
namespace Go.Proofs.YtbfgkogmojnilaaDoor
open Go.ChangeShapes Go.WideShapes Go.ChangeAt Go.RowKit
set_option linter.unusedVariables false
set_option linter.unusedSimpArgs false
def outB (x : Except Nat (List (ByteArray × ByteArray))) : List (ByteArray × ByteArray) := match x with | .ok o => o | .error _ => []
def errB (x : Except Nat (List (ByteArray × ByteArray))) : Nat := match x with | .ok _ => 0 | .error E => E
theorem tags_one {x : Except Nat (List (ByteArray × ByteArray))} {e : Ending} {w : World} (h : TagsR x e w) : ∃ (a : Option Addr) (n cap : Nat), e = .returned (.tuple #[.slice a n cap, .int .i64 (errB x : Nat)]) ∧ RowT w a (outB x) ∧ (outB x).length = n ∧ n ≤ cap := by
  cases x with
  | error E => exact ⟨none, 0, 0, h, .inl rfl, rfl, Nat.le_refl _⟩
  | ok o =>
    obtain ⟨a, cap, he, hr, hc⟩ := h
    exact ⟨a, o.length, cap, he, hr, rfl, hc⟩
theorem tags_as {x : Except Nat (List (ByteArray × ByteArray))} {e : Ending} {w : World} {E : Nat} {o : List (ByteArray × ByteArray)} (hE : errB x = E) (ho : outB x = o) (h : TagsR x e w) : ∃ (a : Option Addr) (n cap : Nat), e = .returned (.tuple #[.slice a n cap, .int .i64 (E : Nat)]) ∧ RowT w a o ∧ o.length = n ∧ n ≤ cap := by
  subst hE ho
  exact tags_one h
/-- What a walk is told of tags that came in. -/
def ArgT (w : World) (a : Option Addr) (len cap : Nat) (ts : List (ByteArray × ByteArray)) : Prop := RowT w a ts ∧ ts.length = len ∧ len ≤ 9223372036854775806 ∧ Short ts ∧ (a = none → len = 0 ∧ cap = 0)
theorem same_self (ts : List (ByteArray × ByteArray)) : sameB ts ts = true := (same_iff ts ts).2 rfl
theorem make_sound (ts : List (ByteArray × ByteArray)) : soundB (outB (makeB ts)) = true := by
  cases h : makeB ts with
  | error E => rfl
  | ok m => exact (make_ok h).2.2
theorem merge_sound (a b : List (ByteArray × ByteArray)) : soundB (outB (mergeB a b)) = true := by
  cases h : mergeB a b with
  | error E => rfl
  | ok m => exact (merge_parts h).1
theorem parse_sound (s : List Nat) : soundB (outB (parseB s)) = true := by
  cases h : parseB s with
  | error E => rfl
  | ok m => exact (text_parse h).1
theorem sound_len {ts : List (ByteArray × ByteArray)} (h : soundB ts = true) : ts.length ≤ 8 := sound_short h
theorem sound_Short {ts : List (ByteArray × ByteArray)} (h : soundB ts = true) : Short ts := fun i hi => by
  obtain ⟨-, h1, h2⟩ := ok_sizes ((sound_parts h).2 i hi)
  omega
end Go.Proofs.YtbfgkogmojnilaaDoor
