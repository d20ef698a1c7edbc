/-
  The document's Bytes on two slices that hold the same bytes; what Unhex and Unbase answer, in one form.
-/
import Derived.Test.YtgeoijbjndjpoaaAlphaAwake
import Derived.Test.YtgeoijbjndjpoaaAlphaUnbase
import Derived.Test.YtgeoijbjndjpoaaPArgs
namespace Go.Proofs.Ytgeoijbjndjpoaa
open Go.ChangeShapes Go.WideShapes Go.ChangeAt Go.RowKit
set_option linter.unusedVariables false
set_option linter.unusedSimpArgs false
theorem conv_any {w : World} {a : Option Addr} {len : Nat} {xs : List Nat} (h : RowL .u8 w a len xs) (hn : a = none → len = 0) (cap : Nat) :
    Sem.run Try.prog (convert 22 9 (Value.slice a len cap)) w = .ok (.string (strN xs)) w := by
  cases a with
  | none =>
    have h0 := hn rfl
    subst h0
    rw [run_convert_bytes_nil w 22 5 Try.underlying22 Try.underlying5 0 cap 9 Try.underlying9, List.eq_nil_of_length_eq_zero h.1]
    rfl
  | some ad =>
    rcases h.2 with h0 | ⟨b, off, e, -, hc⟩
    · subst h0
      rw [List.eq_nil_of_length_eq_zero h.1]
      have hl := run_loadCells_list (P := Try.prog) w ad [] (fun j v hj => by simp at hj)
      rw [run_convert_bytes_string w 22 9 5 (some ad) 0 cap Try.underlying22 Try.underlying5 Try.underlying9, run_bytesToString w ad 0 cap [] hl]
      rfl
    · cases e
      exact conv_row h cap
theorem same_bytes (a1 a2 : Option Addr) (n c1 c2 : Nat) (xs : List Nat) (w : World) (h1 : RowL .u8 w a1 n xs) (h2 : RowL .u8 w a2 n xs) (n1 : a1 = none → n = 0) (n2 : a2 = none → n = 0) :
    Calls Try.prog 13 #[.slice a1 n c1, .slice a2 n c2] w fun e w' => e = .returned (.bool true) ∧ w' = w := by
  have e1 := conv_any h1 n1 c1
  have e2 := conv_any h2 n2 c2
  clear h1 h2 n1 n2
  generalize strN xs = s at *
  go_enter Try.func13, Try.ntmps13
  go_wp2
  go_ret
  exact ⟨rfl, rfl⟩
def errN (o : Option (List Nat)) : Nat := match o with | some _ => 0 | none => 5
def lstN (o : Option (List Nat)) : List Nat := o.getD []
theorem un_form {o : Option (List Nat)} {e : Ending} {w' : World} (h : UnR o e w') :
    ∃ a c, e = .returned (.tuple #[.slice a (lstN o).length c, .int .i64 (errN o : Nat)]) ∧ RowL .u8 w' a (lstN o).length (lstN o) ∧ (a = none → (lstN o).length = 0) := by
  cases o with
  | none =>
    have h' : e = .returned (.tuple #[.slice none 0 0, .int .i64 5]) := h
    exact ⟨none, 0, h', ⟨rfl, .inl rfl⟩, fun _ => rfl⟩
  | some ys =>
    obtain ⟨a, c, h1, h2, h3⟩ := h
    exact ⟨a, c, h1, h2, fun hn => (h3 hn).1⟩
theorem arg_lt {w : World} {a : Option Addr} {len cap : Nat} {xs : List Nat} (h : ArgL w a len cap xs) : ∀ c ∈ xs, c < 256 := fun c hc => by
  obtain ⟨i, hi, rfl⟩ := List.getElem_of_mem hc
  have := h.2.1 i
  rw [List.getD_eq_getElem?_getD, List.getElem?_eq_getElem hi] at this
  exact this
end Go.Proofs.Ytgeoijbjndjpoaa
