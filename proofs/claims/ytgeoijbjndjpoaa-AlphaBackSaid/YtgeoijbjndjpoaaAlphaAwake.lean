/-
  The call 'awake' of the law's package returns true, and lays at most new blocks.
-/
import Derived.Test.YtgeoijbjndjpoaaAlphaNum
import Derived.Test.YtgeoijbjndjpoaaAlphaText
import Derived.Lib.SlBytesConst
namespace Go.Proofs.Ytgeoijbjndjpoaa
open Go.ChangeShapes Go.WideShapes Go.ChangeAt Go.RowKit
set_option linter.unusedVariables false
set_option linter.unusedSimpArgs false
theorem numD_lt : ∀ k : Fin 32, numD.getD k.val 0 < 256 := by decide +kernel
theorem let_lt : ∀ k n, ∀ c ∈ letN n k, c < 256
  | 0, n, c, h => by cases h
  | k + 1, n, c, h => by
    rw [letN, List.mem_append] at h
    rcases h with h | h
    · exact let_lt k _ c h
    · rw [List.mem_singleton] at h
      rw [h]
      exact numD_lt ⟨n % 32, Nat.mod_lt _ (by decide)⟩
theorem num_lt (n : Nat) : ∀ c ∈ numN n, c < 256 := let_lt 13 n
theorem awake_un : unhexN (txt (ByteArray.mk #[48, 48, 102, 102])) = some [0, 255] := by decide +kernel
theorem byte_ext {a b : ByteArray} (h : a.data.toList = b.data.toList) : a = b := ByteArray.ext (Array.toList_inj.1 h)
theorem awake_hex : strN (hexN [0, 255]) = ByteArray.mk #[48, 48, 102, 102] := byte_ext (by decide +kernel)
theorem awake_base : strN (baseN [102]) = ByteArray.mk #[109, 121] := byte_ext (by decide +kernel)
theorem awake_num : strN (numN 32) = ByteArray.mk #[48, 48, 48, 48, 48, 48, 48, 48, 48, 48, 48, 49, 48] := byte_ext (by decide +kernel)
theorem conv_const (w : World) (C : Array Value) (n c g : Nat) (hg : g = w.heap.size) :
    Sem.run Try.prog (convert 22 22 (Value.slice (some ⟨g, 0, none⟩) n c)) (w.alloc (.cells C 5)) = .ok (.slice (some ⟨g, 0, none⟩) n c) (w.alloc (.cells C 5 (C.size, C.size + 1))) := by
  subst hg
  exact Lib.run_convert_bytes_const w 22 5 C n c Try.underlying22 Try.underlying5
theorem row_const (w : World) (l : List Nat) (fr : Nat × Nat) : RowL .u8 (w.alloc (.cells (encL .u8 l) 5 fr)) (some ⟨w.heap.size, 0, none⟩) l.length l := by
  refine ⟨rfl, .inr ⟨w.heap.size, 0, rfl, by simp, fun i hi => ?_⟩⟩
  have hg : (w.alloc (.cells (encL .u8 l) 5 fr)).heap[w.heap.size]? = some (.cells (encL .u8 l) 5 fr) := heap_alloc_last w _
  rw [cell_of_row _ _ (0 + i) _ _ _ hg, Nat.zero_add, encL_get .u8 l i hi]
set_option maxHeartbeats 4000000 in
theorem awake_true (w : World) : Calls Try.prog 10 #[] w fun e w' => e = .returned (.bool true) ∧ Below w.heap.size w w' := by
  have HU : Hid _ := aunhex_any (ByteArray.mk #[48, 48, 102, 102]) w (by decide)
  rw [awake_un] at HU
  go_enter Try.func10, Try.ntmps10
  go_wp2_with fail
  refine Calls.mono HU.out ?_
  rintro e w1 ⟨hb1, a, c, rfl, hr, -⟩
  have HB1 : Hid (Below w.heap.size w w1) := hb1
  have HR : Hid (RowL .u8 w1 a 2 [0, 255]) := hr
  clear hb1 hr HU
  show _
  go_wp2_with fail
  refine Calls.mono (ahex_any a 2 c [0, 255] w1 HR.out (by decide) (by decide)) ?_
  rw [awake_hex]
  rintro e w2 ⟨rfl, hb2⟩
  have HB2 : Hid (Below w.heap.size w w2) := HB1.out.trans (hb2.mono HB1.out.size)
  clear hb2 HB1 HR
  go_wp2_with fail
  rw [conv_const w2 #[.int .u8 102] 1 1 w2.heap.size rfl]
  have HRC : Hid (RowL .u8 (w2.alloc (.cells #[.int .u8 102] 5 (1, 2))) (some ⟨w2.heap.size, 0, none⟩) 1 [102]) := row_const w2 [102] (1, 2)
  have HB3 : Hid (Below w.heap.size w (w2.alloc (.cells #[.int .u8 102] 5 (1, 2)))) := HB2.out.alloc HB2.out.size _
  show Oper.upon _ _ _ _ _ ((Result.ok _ (w2.alloc (.cells #[.int .u8 102] 5 (1, 2)))).andThen _)
  generalize hw3 : w2.alloc (.cells #[.int .u8 102] 5 (1, 2)) = w3 at *
  generalize w2.heap.size = g2 at *
  clear HB2 hw3
  go_wp2_with fail
  refine Calls.mono (abase_any (some ⟨g2, 0, none⟩) 1 1 [102] w3 HRC.out (by decide) (by decide)) ?_
  rw [awake_base]
  rintro e w4 ⟨rfl, hb4⟩
  have HB4 : Hid (Below w.heap.size w w4) := HB3.out.trans (hb4.mono HB3.out.size)
  clear hb4 HB3 HRC
  go_wp2_with fail
  refine Calls.mono (anumber_any 32 w4 (by decide)) ?_
  rw [awake_num]
  rintro e w5 ⟨rfl, hb5⟩
  have HB5 : Hid (Below w.heap.size w w5) := HB4.out.trans (hb5.mono HB4.out.size)
  clear hb5 HB4
  go_wp2_with fail
  go_ret
  exact ⟨rfl, HB5.out⟩
end Go.Proofs.Ytgeoijbjndjpoaa
