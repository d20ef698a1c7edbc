/-
  CabinetRoom: for all steps (of at most 60 the first): a cabinet for 300 bytes never has more than it may, and tells so.
-/
import Derived.Test.YtlhmeebbdjiokaaPArgs
import Derived.Test.YtlhmeebbdjiokaaCabPlay
import Derived.Test.YtlhmeebbdjiokaaCabAwake
namespace Go.Proofs.Ytlhmeebbdjiokaa.cabinetRoom
open Go.ChangeShapes Go.WideShapes Go.ChangeAt Go.RowKit
open Go.ChangeMaps (open_string shut_string)
set_option linter.unusedVariables false
set_option linter.unusedSimpArgs false
theorem pair_new {w w1 w2 : World} {gp gd q : Nat} {Op : Nat → Prop} {c : CabM} (h1 : ProgAt w1 gp Op c) (hO : ∀ b, Op b → w.heap.size ≤ b) (hb1 : Below w.heap.size w w1) (hg : w1.heap.size ≤ gd) (h2 : CabAt w2 gd (fun b => b = gd) c) (hb2 : Below w1.heap.size w1 w2) (hq : q = w2.heap.size) :
    PairAt progP w.heap.size (fun b => b = q) (w2.alloc (.cells #[.pointer (some ⟨gp, 0, none⟩), .pointer (some ⟨gd, 0, none⟩)] 33)) gp gd c c := by
  subst hq
  have hb3 := below_new w2 (.cells #[.pointer (some ⟨gp, 0, none⟩), .pointer (some ⟨gd, 0, none⟩)] 33)
  have k1 : progP.At w2 gp Op c := progP.keep h1 (apart_of hb2 (fun _ => False)) (fun _ _ h => h)
  have k2 : progP.At (w2.alloc (.cells #[.pointer (some ⟨gp, 0, none⟩), .pointer (some ⟨gd, 0, none⟩)] 33)) gp Op c := progP.keep k1 (apart_of hb3 (fun _ => False)) (fun _ _ h => h)
  have l1 := progP.lt h1
  have l2 := h2.lt gd rfl
  refine ⟨Op, fun b => b = gd, k2, h2.below hb3, fun b e e' => ?_, fun b e => ⟨hO b e, fun e' => ?_⟩, fun b e => ⟨?_, fun e' => ?_⟩, fun b e => ?_, ?_⟩
  · have := l1 b e; omega
  · have := l1 b e; have := hb2.size; omega
  · have := hb1.size; omega
  · omega
  · subst e; simp
  · have := hb1.size; have := hb2.size; simp; omega
set_option maxRecDepth 100000 in
set_option maxHeartbeats 16000000 in
theorem walk (w : World) (a1 : Option Addr) (len1 cap1 : Nat) (x1 : List StepV) (w1 : ArgS w a1 len1 x1) (lc1 : len1 ≤ cap1) (mc1 : cap1 ≤ maxLen) :
    Calls Try.prog 4 #[.slice a1 len1 cap1] w fun e w' => e = .returned (.bool true) ∧ Below w.heap.size w w' := by
  have HARG : Hid (ArgS w a1 len1 x1) := w1
  have hl1 : len1 ≤ 9223372036854775807 := by unfold maxLen at mc1; omega
  clear w1 lc1 mc1
  have HN := progP.new w 300
  have hok : newOk 300 = true := by decide
  go_enter Try.func4, Try.ntmps4
  go_wp2_with fail
  refine HN.mono ?_
  intro e v1 hnew
  unfold NewP at hnew
  rw [if_pos hok] at hnew
  obtain ⟨gp, Op, rfl, hA, hO, b1⟩ := hnew
  clear HN
  go_wp2_with fail
  refine (awake_any v1).mono ?_
  rintro _ v1' ⟨rfl, bA⟩
  have HP : Hid (ProgAt v1' gp Op (newC 300) ∧ (∀ b, Op b → w.heap.size ≤ b) ∧ Below w.heap.size w v1') := ⟨progP.keep hA (apart_of bA (fun _ => False)) (fun _ _ h => h), hO, b1.trans (bA.mono b1.size)⟩
  have HG0 : Hid (GoodC (newC 300) 0) := good_new _ (by decide)
  have HR := rnew_any v1' 300
  clear hA hO b1 bA
  go_wp2_with fail
  refine HR.mono ?_
  intro e v2 hnew
  unfold newP at hnew
  rw [if_pos hok] at hnew
  obtain ⟨gd, rfl, hg, hC, b2⟩ := hnew
  have HPA := pair_new HP.out.1 HP.out.2.1 HP.out.2.2 hg hC b2 rfl
  have HB3 := (HP.out.2.2.trans (b2.mono HP.out.2.2.size)).trans ((below_new v2 (.cells #[.pointer (some ⟨gp, 0, none⟩), .pointer (some ⟨gd, 0, none⟩)] 33)).mono (Nat.le_trans HP.out.2.2.size b2.size))
  have HS0 : Hid (PairAt progP w.heap.size (fun b => b = v2.heap.size) (v2.alloc (.cells #[.pointer (some ⟨gp, 0, none⟩), .pointer (some ⟨gd, 0, none⟩)] 33)) gp gd (newC 300) (newC 300) ∧ Below w.heap.size w (v2.alloc (.cells #[.pointer (some ⟨gp, 0, none⟩), .pointer (some ⟨gd, 0, none⟩)] 33)) ∧ (v2.alloc (.cells #[.pointer (some ⟨gp, 0, none⟩), .pointer (some ⟨gd, 0, none⟩)] 33)).heap[v2.heap.size]? = some (.cells #[.pointer (some ⟨gp, 0, none⟩), .pointer (some ⟨gd, 0, none⟩)] 33 (0, 0))) := ⟨HPA, HB3, heap_alloc_last v2 _⟩
  have HQ0 : Hid ((newC 300).quota = 300) := rfl
  clear HP hC b2 hg HPA HB3 HR hok
  generalize newC 300 = c0 at *
  go_wp2_with fail
  generalize v2.alloc (.cells #[.pointer (some ⟨gp, 0, none⟩), .pointer (some ⟨gd, 0, none⟩)] 33) = v3 at *
  generalize v2.heap.size = q at *
  go_loopw [8] (fun ix wr => ∃ (wz : World) (i : Nat) (c : CabM), wz = wr ∧ ix = .int .i64 i ∧ i ≤ 60 ∧ c.quota = 300 ∧ GoodC c i ∧ PairAt progP w.heap.size (fun b => b = q) wz gp gd c c ∧ Below w.heap.size w wz ∧ wz.heap[q]? = some (.cells #[.pointer (some ⟨gp, 0, none⟩), .pointer (some ⟨gd, 0, none⟩)] 33 (0, 0))) (fun ix _ => 60 - (intOf ix).toNat)
  case atStart => exact ⟨v3, 0, c0, rfl, rfl, by omega, HQ0.out, HG0.out, HS0.out.1, HS0.out.2.1, HS0.out.2.2⟩
  case round =>
    clear HS0 HG0
    obtain ⟨wr, i, c, hwr, rfl, hi60, hcq, hgc, hpa, hbr, hqr⟩ := hrel
    subst hwr
    by_cases hin : i < len1 ∧ i < 60
    · obtain ⟨hil, hi6⟩ := hin
      obtain ⟨b, off, c', v, rfl, hL, hg', hq', hP⟩ := HARG.out.play hbr i hil progP (fun b => b = q) q gp gd c i hpa rfl hqr hgc (by omega)
      have HF : Hid (GoodC c' (i + 1) ∧ Below w.heap.size w wr ∧ wr.heap[q]? = some (.cells #[.pointer (some ⟨gp, 0, none⟩), .pointer (some ⟨gd, 0, none⟩)] 33 (0, 0)) ∧ c'.quota = 300) := ⟨hg', hbr, hqr, hq'.trans hcq⟩
      clear hgc hpa hbr hqr hg' hq' hcq HARG
      go_wp2_with (refine load_op rfl 38 (.tmp 42) rfl ⟨b, off + i * 7, none⟩ rfl _ hL ?_)
      refine hP.mono ?_
      rintro _ z1 ⟨rfl, hto⟩
      clear hL hP
      have hpz : PairAt progP w.heap.size (fun b => b = q) z1 gp gd c' c' := hto.1
      have HU : Hid (Calls Try.prog 9 #[.pointer (some ⟨gp, 0, none⟩)] z1 fun e w' => e = .returned (.tuple #[.int .i64 (usedC c' : Nat), .int .i64 300]) ∧ Below z1.heap.size z1 w') := by
        obtain ⟨Op', Od, a1, -⟩ := hpz
        have := progP.used z1 gp Op' c' (i + 1) a1 HF.out.1 (by omega)
        rw [HF.out.2.2.2] at this
        exact this
      have hu : usedC c' ≤ 300 := by have := HF.out.1.1.2.2.2; rw [HF.out.2.2.2] at this; exact this
      have HT : Hid (Below w.heap.size w z1 ∧ z1.heap[q]? = some (.cells #[.pointer (some ⟨gp, 0, none⟩), .pointer (some ⟨gd, 0, none⟩)] 33 (0, 0)) ∧ PairAt progP w.heap.size (fun b => b = q) z1 gp gd c' c') := ⟨HF.out.2.1.trans hto.2.1, (hto.2.2 q rfl).trans HF.out.2.2.1, hpz⟩
      clear hto hpz
      go_wp2_with fail
      refine HU.out.mono ?_
      rintro _ z2 ⟨rfl, bU⟩
      have HZ : Hid (Below w.heap.size w z2 ∧ z2.heap[q]? = some (.cells #[.pointer (some ⟨gp, 0, none⟩), .pointer (some ⟨gd, 0, none⟩)] 33 (0, 0)) ∧ PairAt progP w.heap.size (fun b => b = q) z2 gp gd c' c') := by
        obtain ⟨t1, t2, t3⟩ := HT.out
        have h := t3.to bU
        exact ⟨t1.trans h.2.1, (h.2.2 q rfl).trans t2, h.1⟩
      clear HU HT bU
      generalize hud : usedC c' = u at *
      go_wp2_with fail
      go_roundw
      case rel => exact ⟨z2, i + 1, c', rfl, rfl, by omega, HF.out.2.2.2, HF.out.1, HZ.out.2.2, HZ.out.1, HZ.out.2.1⟩
      case measure => simp [intOf]; omega
    · clear hgc hpa hqr HARG
      by_cases hA : i < len1
      · have hA2 : ¬ ((i : Int) < 60) := by omega
        go_wp2_with fail
        go_ret
        exact ⟨rfl, hbr⟩
      · have hA2 : ¬ ((i : Int) < (len1 : Int)) := by omega
        go_wp2_with fail
        go_ret
        exact ⟨rfl, hbr⟩
set_option maxRecDepth 100000 in
theorem contract (H : Type) (enc : TypeId × Value → H) (W : World) (base : Nat) (args : Array Value) (ds gs : List (DataW H)) (before : List MemPlace)
    (hval : ∀ (j : Nat) t v, Try.f4.params[j]? = some t → args[j]? = some v → Value.okWide Try.prog W .any base t v)
    (hW : DataW.Whole enc Try.prog Try.f4.params.toList Rows.cabinetRoomSpec.vars false W args.toList ds gs before)
    (hsz : (DataW.weightsEach Try.prog (Try.f4.params.toList ++ Rows.cabinetRoomSpec.plain.varTypes Try.prog) (ds ++ gs)).all (· ≤ reachBytes) = true) :
    Calls Try.prog 4 args W fun e W' => ∃ v, e = .returned v ∧ Rows.cabinetRoomSpec.post enc Try.prog Try.f4 false true false false W args v W' := by
  have hW' := hW
  obtain ⟨p, q, hA0, hV, rfl, hfz, hnd⟩ := hW
  have hA : DataW.TrodAll enc Try.prog W 0 (fun _ => true) true Try.f4.params.toList args.toList ds p := hA0
  rw [Try.params4] at hA hval hsz
  obtain ⟨v0, vs0, d0, ds0, p0, q0, hargs, rfl, rfl, h0, r0⟩ := trodAll_cons hA
  obtain ⟨rfl, rfl, rfl⟩ := trodAll_nil r0
  obtain rfl : args = #[v0] := by cases args; simp_all
  obtain ⟨rfl, rfl⟩ := trodVars_none hV
  obtain ⟨a0, len0, cap0, rfl⟩ := okWide_slice Try.underlying22 (hval 0 22 v0 rfl rfl)
  have k0 := h0
  have lt0 : ∀ x ∈ p0, x.block < W.heap.size := by obtain ⟨m, hm⟩ := k0; exact DataW.trod_lt m _ _ _ hm
  obtain ⟨x0, w0, lc0, mc0⟩ : ∃ xs, ArgS W a0 len0 xs ∧ len0 ≤ cap0 ∧ cap0 ≤ maxLen := by
    obtain ⟨fuel, hf⟩ := h0
    exact steps_open hf fun m hm => by
      have := List.all_eq_true.1 hsz m (DataW.weights_mem_each (j := 0) (t := 22) (d := d0) rfl rfl m hm)
      simpa using this
  clear hA0 hsz
  refine (walk W a0 len0 cap0 x0 w0 lc0 mc0).mono fun e W' ⟨he, bel⟩ => ?_
  subst he
  exact ⟨_, rfl, _, _, _, [], _, [], hW', trodAll_mk1 (shut_bool Try.underlying4 _), (trodAll_cons_mk (Below.trod laidOut (by kernel_rfl) (of_decide_eq_true (by kernel_rfl)) k0 bel lt0) trodAll_mk0), rfl, bel.frame _, fun h => by cases h⟩
set_option maxRecDepth 100000 in
theorem lifted (os : Os) (started : os.Started) (H : Type) (enc : TypeId × Value → H) :
    ReturnsInHanded {} Try.checked os 4 .any (Rows.cabinetRoomSpec.pre6 enc Try.prog Try.f4 Rows.cabinetRoomRow.domain false) (Rows.cabinetRoomSpec.post enc Try.prog Try.f4 false true false false) := by
  refine returnsInHanded_of_change_sized (C := Try.checked) own started (by kernel_rfl) Try.func4
    (ChangeSpec.witness6 (enc := enc) (C := Try.checked) false ⟨#[], #[.slice none 0 0], []⟩ 8 (by kernel_rfl) (by kernel_rfl) (by kernel_rfl) (by kernel_rfl)) ?_
  intro W base args ds gs before hval hW _ hsz _
  exact contract H enc W base args ds gs before hval hW hsz
theorem over : Rows.cabinetRoomRow.holds Try.pinned (OpenSpec.ofChange Rows.cabinetRoomSpec) :=
  OpenClaim.holds_of_wide 4 Try.f4 rfl rfl rfl rfl rfl rfl rfl ⟨rfl, rfl, rfl, rfl, rfl⟩ rfl rfl rfl rfl rfl (by kernel_rfl) Try.func4 (by kernel_rfl)
    (of_decide_eq_true (by kernel_rfl)) (by unfold Func.isWrapper; first | (rw [if_pos (by decide +kernel)]; kernel_rfl) | (rw [if_neg (by decide +kernel)]; exact ⟨rfl, rfl⟩))
    (fun os started H enc _ => lifted os started H enc)
theorem proved : Rows.CabinetRoomSaid := over
end Go.Proofs.Ytlhmeebbdjiokaa.cabinetRoom
