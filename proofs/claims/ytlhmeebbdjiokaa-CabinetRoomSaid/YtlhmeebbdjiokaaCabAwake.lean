/-
  Layer 9's awake: true.
-/
import Derived.Test.YtlhmeebbdjiokaaCabIn
namespace Go.Proofs.Ytlhmeebbdjiokaa
open Go.ChangeShapes Go.WideShapes Go.ChangeAt Go.RowKit
set_option linter.unusedVariables false
set_option linter.unusedSimpArgs false
set_option maxRecDepth 100000 in
set_option maxHeartbeats 8000000 in
theorem awake_any (w : World) : Calls Try.prog 7 #[] w fun e w' => e = .returned (.bool true) ∧ Below w.heap.size w w' := by
  have hcv := conv_const
  have HN : Hid _ := in_new w 100 (by decide)
  go_enter Try.func7, Try.ntmps7
  go_wp2_with fail
  refine Calls.mono HN.out ?_
  rintro _ w1 ⟨g, rfl, h1⟩
  have H1 : Hid (CabIn w.heap.size w w1 g (newC 100)) := h1
  clear h1 HN
  go_wp2_with fail
  have HC : Hid _ := in_create H1.out (good_new 100 (by decide)) (by decide) nameA (by decide)
  rw [aw_e1] at HC
  refine Calls.mono HC.out ?_
  rintro _ w2 ⟨rfl, h2⟩
  have H2 : Hid (CabIn w.heap.size w w2 g aw1) := h2
  clear h2 HC H1
  go_wp2_with fail
  have HA : Hid _ := in_append_new H2.out aw_g1 (by decide) nameA (ByteArray.mk #[120, 121]) (by decide) 2 2 #[.int .u8 120, .int .u8 121] (2, 3) rfl rfl (by decide)
  rw [aw_e2] at HA
  refine Calls.mono HA.out ?_
  rintro _ w3 ⟨rfl, h3⟩
  have H3 : Hid (CabIn w.heap.size w w3 g aw2) := h3
  clear h3 HA H2
  go_wp2_with fail
  have HT : Hid _ := in_turn H3.out aw_g2 (by decide)
  rw [aw_e3] at HT
  refine Calls.mono HT.out ?_
  rintro _ w4 ⟨rfl, h4⟩
  have H4 : Hid (CabIn w.heap.size w w4 g aw3) := h4
  clear h4 HT H3 hcv
  go_wp2_with fail
  have HCR : Hid _ := in_crash_new H4.out aw_g3 (by decide) 0 1 0 0 rfl
  refine Calls.mono HCR.out ?_
  rintro _ w5 ⟨rfl, h5⟩
  have H5 : Hid (CabIn w.heap.size w w5 g aw4) := h5
  clear h5 HCR H4
  go_wp2_with fail
  have HRD : Hid _ := in_read H5.out aw_g4 (by decide) nameA (by decide)
  refine Calls.mono HRD.out ?_
  rintro _ w6 ⟨⟨a, len, cap, rfl, hrow, hnil⟩, h6, -⟩
  rw [aw_r] at hrow ⊢
  have H6 : Hid (CabIn w.heap.size w w6 g aw4) := h6
  have hl1 : len = 1 := hrow.1.symm
  subst hl1
  have HROW : Hid (RowL .u8 w6 a 1 (txt (ByteArray.mk #[120]))) := hrow
  clear h6 HRD H5 hrow hnil
  dsimp only
  go_wp2_with fail
  have HU : Hid _ := in_used H6.out aw_g4 (by decide)
  rw [aw_u, aw_q] at HU
  refine Calls.mono HU.out ?_
  rintro _ w7 ⟨rfl, h7, hb7⟩
  have H7 : Hid (CabIn w.heap.size w w7 g aw4) := h7
  have hcn := conv_any (HROW.out.below hb7) (fun e => by rcases HROW.out.2 with h0 | ⟨_, _, e', _⟩; exact absurd h0 (by decide); rw [e] at e'; cases e') cap
  rw [strN_txt] at hcn
  have hx : (ByteArray.mk #[120]).toList = [120] := by rw [Go.ByteArray.toList_eq]
  clear h7 HU H6 HROW hb7
  go_wp2_with fail
  go_ret
  exact ⟨rfl, H7.out.under⟩
end Go.Proofs.Ytlhmeebbdjiokaa
