/-
  For any bytes and any text, together of at most 1048576 values and letters: Base is the document's text, and Unbase the document's bytes or error.
-/
import Derived.Test.YtgeoijbjndjpoaaPArgs
import Derived.Test.YtgeoijbjndjpoaaAlphaSame
namespace Go.Proofs.Ytgeoijbjndjpoaa.alphaBaseUpto
open Go.ChangeShapes Go.WideShapes Go.ChangeAt Go.RowKit
open Go.ChangeMaps (open_string shut_string)
set_option linter.unusedVariables false
set_option linter.unusedSimpArgs false
set_option maxHeartbeats 2000000 in
/-- The law's body at any input. -/
theorem walk (w : World) (a0 : Option Addr) (len0 cap0 : Nat) (x0 : List Nat) (w0 : ArgL w a0 len0 cap0 x0) (re0 : cap0 ≤ 140737488351232) (bu0 : len0 ≤ 1048576) (a1 : ByteArray) (w1 : a1.size ≤ 140737488351232) (bu1 : a1.size ≤ 1048576) :
    Calls Try.prog 4 #[.slice a0 len0 cap0, .string a1] w fun e w' => e = .returned (.bool true) ∧ Below w.heap.size w w' := by
  have hb := arg_lt w0
  obtain ⟨hr0, hx0, -, hlc, -⟩ := w0
  have hl0 : len0 ≤ 140737488355328 := by omega
  have HR0 : Hid (RowL .u8 w a0 len0 x0) := hr0
  have HUA : Hid _ := aunbase_any a1 w (by omega)
  have HUR : Hid (∀ W, Calls Try.prog 15 #[.string a1] W fun e w' => Below W.heap.size W w' ∧ UnR (unbaseN (txt a1)) e w') := fun W => runbase_any a1 W (by omega)
  have HHA : Hid (∀ W, RowL .u8 W a0 len0 x0 → Calls Try.prog 16 #[.slice a0 len0 cap0] W fun e w' => e = .returned (.string (strN (baseN x0))) ∧ Below W.heap.size W w') := fun W h => abase_any a0 len0 cap0 x0 W h hb (by omega)
  have HHR : Hid (∀ W, RowL .u8 W a0 len0 x0 → Calls Try.prog 17 #[.slice a0 len0 cap0] W fun e w' => e = .returned (.string (strN (baseN x0))) ∧ Below W.heap.size W w') := fun W h => rbase_any a0 len0 cap0 x0 W h hx0 (by omega)
  clear hr0 hx0 hb
  generalize strN (baseN x0) = st at *
  generalize unbaseN (txt a1) = o at *
  go_enter Try.func4, Try.ntmps4
  go_wp2_with fail
  refine Calls.mono HUA.out ?_
  rintro _ wA ⟨hbA, hu⟩
  obtain ⟨aA, cA, rfl, hrA, hnA⟩ := un_form hu
  have HBA : Hid (Below w.heap.size w wA) := hbA
  have HRA : Hid (RowL .u8 wA aA (lstN o).length (lstN o)) := hrA
  have HNA : Hid (aA = none → (lstN o).length = 0) := hnA
  clear hbA hu hrA hnA HUA
  generalize hno : (lstN o).length = no at *
  have HNO : Hid ((lstN o).length = no) := hno
  clear hno
  obtain ⟨er, her⟩ : ∃ er, errN o = er := ⟨_, rfl⟩
  have HER : Hid (errN o = er) := her
  rw [her]
  clear her
  go_wp2_with fail
  refine Calls.mono (HUR.out wA) ?_
  rintro _ wB ⟨hbB, hu⟩
  obtain ⟨aB, cB, rfl, hrB, hnB⟩ := un_form hu
  rw [HNO.out] at hrB hnB ⊢
  rw [HER.out]
  have HBB : Hid (Below w.heap.size w wB) := HBA.out.trans (hbB.mono HBA.out.size)
  have HRB : Hid (RowL .u8 wB aB no (lstN o)) := hrB
  have HNB : Hid (aB = none → no = 0) := hnB
  replace HRA : Hid (RowL .u8 wB aA no (lstN o)) := RowL.below HRA.out hbB
  clear hbB hu hrB hnB HUR HBA
  replace HR0 : Hid (RowL .u8 wB a0 len0 x0) := RowL.below HR0.out HBB.out
  go_wp2_with fail
  refine Calls.mono (awake_true wB) ?_
  rintro _ wC ⟨rfl, hbC⟩
  have HBC : Hid (Below w.heap.size w wC) := HBB.out.trans (hbC.mono HBB.out.size)
  replace HR0 : Hid (RowL .u8 wC a0 len0 x0) := RowL.below HR0.out hbC
  replace HRA : Hid (RowL .u8 wC aA no (lstN o)) := RowL.below HRA.out hbC
  replace HRB : Hid (RowL .u8 wC aB no (lstN o)) := RowL.below HRB.out hbC
  clear hbC HBB
  go_wp2_with fail
  refine Calls.mono (HHA.out wC HR0.out) ?_
  rintro _ wD ⟨rfl, hbD⟩
  have HBD : Hid (Below w.heap.size w wD) := HBC.out.trans (hbD.mono HBC.out.size)
  replace HR0 : Hid (RowL .u8 wD a0 len0 x0) := RowL.below HR0.out hbD
  replace HRA : Hid (RowL .u8 wD aA no (lstN o)) := RowL.below HRA.out hbD
  replace HRB : Hid (RowL .u8 wD aB no (lstN o)) := RowL.below HRB.out hbD
  clear hbD HBC HHA
  go_wp2_with fail
  refine Calls.mono (HHR.out wD HR0.out) ?_
  rintro _ wE ⟨rfl, hbE⟩
  have HBE : Hid (Below w.heap.size w wE) := HBD.out.trans (hbE.mono HBD.out.size)
  replace HRA : Hid (RowL .u8 wE aA no (lstN o)) := RowL.below HRA.out hbE
  replace HRB : Hid (RowL .u8 wE aB no (lstN o)) := RowL.below HRB.out hbE
  clear hbE HBD HHR HR0
  go_wp2_with fail
  refine Calls.mono (same_bytes aA aB no cA cB (lstN o) wE HRA.out HRB.out HNA.out HNB.out) ?_
  rintro _ wF ⟨rfl, hwF⟩
  replace hwF := hwF.symm
  subst hwF
  clear HRA HRB HNA HNB HNO HER
  go_wp2_with fail
  go_ret
  exact ⟨rfl, HBE.out⟩
theorem contract (H : Type) (enc : TypeId × Value → H) (W : World) (base : Nat) (args : Array Value) (ds gs : List (DataW H)) (before : List MemPlace)
    (hval : ∀ (j : Nat) t v, Try.f4.params[j]? = some t → args[j]? = some v → Value.okWide Try.prog W .any base t v)
    (hW : DataW.Whole enc Try.prog Try.f4.params.toList Rows.alphaBaseSpec.vars false W args.toList ds gs before)
    (hk : Rows.uptoSmall H (ds ++ gs) = true)
    (hsz : (DataW.weightsEach Try.prog (Try.f4.params.toList ++ (Rows.OpenSpec.upto Rows.alphaBaseSpec).bare.plain.varTypes Try.prog) (ds ++ gs)).all (· ≤ reachBytes) = true) :
    Calls Try.prog 4 args W fun e W' => ∃ v, e = .returned v ∧ Rows.alphaBaseSpec.post enc Try.prog Try.f4 false true false false W args v W' := by
  have hW' := hW
  obtain ⟨p, q, hA0, hV, rfl, hfz, hnd⟩ := hW
  have hA : DataW.TrodAll enc Try.prog W 0 (fun _ => true) true Try.f4.params.toList args.toList ds p := hA0
  rw [Try.params4] at hA hval hsz
  obtain ⟨v0, vs0, d0, ds0, p0, q0, hargs, rfl, rfl, h0, r0⟩ := trodAll_cons hA
  obtain ⟨v1, vs1, d1, ds1, p1, q1, rfl, rfl, rfl, h1, r1⟩ := trodAll_cons r0
  obtain ⟨rfl, rfl, rfl⟩ := trodAll_nil r1
  obtain rfl : args = #[v0, v1] := by cases args; simp_all
  obtain ⟨rfl, rfl⟩ := trodVars_none hV
  have hbulk := of_decide_eq_true hk
  simp only [List.append_nil, Rows.uptoBulkAll] at hbulk
  obtain ⟨a0, len0, cap0, rfl⟩ := okWide_slice Try.underlying22 (hval 0 22 v0 rfl rfl)
  have k0 := h0
  have lt0 : ∀ x ∈ p0, x.block < W.heap.size := by obtain ⟨m, hm⟩ := k0; exact DataW.trod_lt m _ _ _ hm
  obtain ⟨x0, w0, re0, bu0⟩ : ∃ xs, ArgL W a0 len0 cap0 xs ∧ cap0 ≤ 140737488351232 ∧ len0 ≤ 1048576 := by
    obtain ⟨fuel, hf⟩ := h0
    rcases open_ints Try.underlying22 Try.underlying5 (by kernel_rfl) hf with ⟨hcs, _⟩ | ⟨x, l, c, zs, hcs, _, hl, hm, hz, hx, hcell, hwz⟩
    · simp [Value.cells] at hcs
      obtain ⟨rfl, rfl, rfl⟩ := hcs
      exact ⟨_, arg_at (.inl ⟨rfl, rfl, rfl, rfl⟩), by omega, by omega⟩
    · simp [Value.cells] at hcs
      obtain ⟨rfl, rfl, rfl⟩ := hcs
      have hd := congrArg Prod.fst hx
      simp only [] at hd
      have hz' : zs.length = cap0 := by simpa using hz
      have hb := sized_slice hsz (j := 0) (t := 22) (e := 5) rfl (by rw [hd]; rfl) Try.underlying22
      have hby : Try.prog.bytesOf 5 = 1 := by kernel_rfl
      rw [hby] at hb
      simp only [lits, List.length_map, List.length_take, List.length_drop, reachBytes] at hb
      rw [hd, Rows.uptoBulk, bulk_lits, List.length_take] at hbulk
      exact ⟨_, arg_at (.inr ⟨_, rfl, hl, hm, hz', hcell, hwz⟩), by omega, by omega⟩
  obtain ⟨a1, rfl, rfl, rfl, m1⟩ := open_string Try.underlying9 (hval 1 9 v1 rfl rfl) h1
  have w1 : a1.size ≤ 140737488351232 := by
    have := sized_string hsz (j := 1) (t := 9) rfl rfl
    rw [bytes_len] at this
    exact this
  have bu1 : a1.size ≤ 1048576 := by
    simp only [Rows.uptoBulk] at hbulk
    rw [← bytes_len]
    omega
  clear hA0 hsz hbulk
  refine (walk W a0 len0 cap0 x0 w0 re0 bu0 a1 w1 bu1).mono fun e W' ⟨he, bel⟩ => ?_
  subst he
  exact ⟨_, rfl, _, _, _, [], _, [], hW', trodAll_mk1 (shut_bool Try.underlying4 _), (trodAll_cons_mk (Below.trod laidOut (by kernel_rfl) (of_decide_eq_true (by kernel_rfl)) k0 bel lt0) (trodAll_cons_mk (shut_string Try.underlying9 m1) trodAll_mk0)), rfl, bel.frame _, fun h => by cases h⟩
set_option maxRecDepth 100000 in
theorem lifted (os : Os) (started : os.Started) (H : Type) (enc : TypeId × Value → H) (I : Stop.Interp) :
    ReturnsInHanded {} Try.checked os 4 .any ((Rows.OpenSpec.upto Rows.alphaBaseSpec).pre6 enc Try.prog Try.f4 Rows.alphaBaseUptoRow.domain false) (((Rows.OpenSpec.upto Rows.alphaBaseSpec).at I).post enc Try.prog Try.f4 false true false false) := by
  refine returnsInHanded_of_cond_sized (C := Try.checked) (s := (Rows.OpenSpec.upto Rows.alphaBaseSpec)) (k := Rows.uptoSmall) rfl own started (by kernel_rfl) Try.func4
    (OpenSpec.witness (enc := enc) (C := Try.checked) (s := (Rows.OpenSpec.upto Rows.alphaBaseSpec)) (k := Rows.uptoSmall) rfl false ⟨#[], #[.slice none 0 0, .string ByteArray.empty], []⟩ 8 (by kernel_rfl) (by kernel_rfl) (by kernel_rfl)
      (x := ([.nil, .lit (.string [])], [], [])) (by kernel_rfl) rfl (by kernel_rfl)) ?_
  intro W base args ds gs before hval hW _ hk hsz _
  exact contract H enc W base args ds gs before hval hW hk hsz
theorem over : Rows.alphaBaseUptoRow.holds Try.pinned (Rows.OpenSpec.upto Rows.alphaBaseSpec) :=
  OpenClaim.holds_of_cond 4 Try.f4 rfl rfl rfl rfl rfl rfl rfl ⟨rfl, rfl, rfl, rfl, rfl⟩ rfl rfl rfl rfl rfl (by kernel_rfl) Try.func4 (by kernel_rfl)
    (of_decide_eq_true (by kernel_rfl)) (by unfold Func.isWrapper; first | (rw [if_pos (by decide +kernel)]; kernel_rfl) | (rw [if_neg (by decide +kernel)]; exact ⟨rfl, rfl⟩))
    (fun os started H enc _ I => lifted os started H enc I)
theorem proved : Rows.AlphaBaseUptoSaid := over
end Go.Proofs.Ytgeoijbjndjpoaa.alphaBaseUpto
