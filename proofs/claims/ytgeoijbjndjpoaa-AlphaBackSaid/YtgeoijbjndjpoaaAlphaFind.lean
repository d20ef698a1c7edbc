/-
  strings.IndexByte, as the library's text has it over the model's own entry: where a byte stands first in a text.
-/
import Derived.Test.YtgeoijbjndjpoaaAlphaRef
import Derived.Test.YtgeoijbjndjpoaaAlphaGen
import Derived.Lib.Bytealg
namespace Go.Proofs.Ytgeoijbjndjpoaa
open Go.ChangeShapes Go.WideShapes Go.ChangeAt Go.RowKit
set_option linter.unusedVariables false
set_option linter.unusedSimpArgs false
theorem index_pl : ∀ (l : List UInt8) (b : Nat), b < 256 → Lib.indexByte l (b : Int).toNat.toUInt8 = plZ (placeN (l.map UInt8.toNat) b)
  | [], b, _ => rfl
  | x :: l, b, h => by
    have ih := index_pl l b h
    rw [Lib.indexByte, List.map_cons, placeN, ih]
    have hb : ((b : Int).toNat.toUInt8).toNat = b := by simp; omega
    by_cases hx : x.toNat = b
    · have : (x == (b : Int).toNat.toUInt8) = true := by rw [beq_iff_eq]; exact UInt8.toNat_inj.1 (by rw [hb, hx])
      rw [this, if_pos rfl, if_pos hx]
      rfl
    · have : (x == (b : Int).toNat.toUInt8) = false := by rw [beq_eq_false_iff_ne]; intro e; exact hx (by rw [e, hb])
      rw [this, if_neg (by simp), if_neg hx]
      cases placeN (l.map UInt8.toNat) b with
      | none => rfl
      | some i =>
        have : (plZ (some i) == -1) = false := by rw [beq_eq_false_iff_ne]; show (i : Int) ≠ -1; omega
        rw [this, if_neg (by simp)]
        show (i : Int) + 1 = ((i + 1 : Nat) : Int)
        omega
theorem find_run (S : ByteArray) (b : Nat) (hb : b < 256) (w : World) : (callFunc 28 #[.string S, .int .u8 (b : Nat)]).run Try.prog w = .ok (.value (.int .i64 (plZ (placeN (txt S) b)))) w := by
  rw [run_callFunc_extern (e := Extern.BytealgIndexByte.indexByte) Try.func28 (by kernel_rfl) (by kernel_rfl) (by kernel_rfl) (by kernel_rfl), Lib.run_indexByteString, index_pl _ _ hb]
  rfl
theorem sfind_any (S : ByteArray) (b : Nat) (w : World) (hb : b < 256) :
    Calls Try.prog 27 #[.string S, .int .u8 (b : Nat)] w fun e w' => e = .returned (.int .i64 (plZ (placeN (txt S) b))) ∧ w' = w := by
  have hf := find_run S b hb
  generalize plZ (placeN (txt S) b) = z at *
  go_enter Try.func27, Try.ntmps27
  go_wp2
  go_ret
  exact ⟨rfl, rfl⟩
theorem find_any (S : ByteArray) (b : Nat) (w : World) (hb : b < 256) :
    Calls Try.prog 26 #[.string S, .int .u8 (b : Nat)] w fun e w' => e = .returned (.int .i64 (plZ (placeN (txt S) b))) ∧ w' = w := by
  have HF := sfind_any S b w hb
  generalize plZ (placeN (txt S) b) = z at *
  go_enter Try.func26, Try.ntmps26
  go_wp2_with fail
  refine Calls.mono HF ?_
  rintro e w' ⟨rfl, hw'⟩
  subst hw'
  go_wp2_with fail
  go_ret
  exact ⟨rfl, rfl⟩
end Go.Proofs.Ytgeoijbjndjpoaa
