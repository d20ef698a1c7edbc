/-
  For any bytes, any place and any pattern of 32 bits: a text that parts from another one within 32 bits in a row has another sum; the table of halves reads as the program's text lays it (the card ties it).
-/
import Derived.Test.YtlfcgdcahfcanaaDoorCards
import Derived.Test.YtlfcgdcahfcanaaDoorTie
import Derived.Test.YtlfcgdcahfcanaaDoorCrcArg
import Derived.Test.YtlfcgdcahfcanaaDoorCrcAppend
namespace Go.Proofs.YtlfcgdcahfcanaaDoor.crcFinds
open Go.ChangeShapes Go.WideShapes Go.ChangeAt Go.RowKit
set_option linter.unusedVariables false
set_option linter.unusedSimpArgs false
/-- The bytes behind so many of the pattern's bits. -/
def turnN (xs : List Nat) (k burst : Nat) : Nat → List Nat
  | 0 => xs
  | i + 1 => if burst / 2 ^ i % 2 = 1 then (turnN xs k burst i).set ((k + i) / 8) ((turnN xs k burst i).getD ((k + i) / 8) 0 ^^^ 2 ^ ((k + i) % 8)) else turnN xs k burst i
theorem turnN_length (xs : List Nat) (k burst : Nat) : ∀ i, (turnN xs k burst i).length = xs.length
  | 0 => rfl
  | i + 1 => by
    rw [turnN]
    split
    · rw [List.length_set, turnN_length xs k burst i]
    · exact turnN_length xs k burst i
theorem turnN_bytes (xs : List Nat) (k burst : Nat) (h : ∀ c ∈ xs, c < 256) : ∀ i, ∀ c ∈ turnN xs k burst i, c < 256
  | 0 => h
  | i + 1 => by
    have ih := turnN_bytes xs k burst h i
    rw [turnN]
    split
    · intro c hc
      rcases List.mem_or_eq_of_mem_set hc with h1 | h1
      · exact ih c h1
      · rw [h1]; exact byte_flip _ _ (getD_lt _ ih _) (Nat.mod_lt _ (by decide))
    · exact ih
theorem turnN_num (xs : List Nat) (k burst : Nat) (h : ∀ c ∈ xs, c < 256) : ∀ i, k + i ≤ 8 * xs.length → numN (turnN xs k burst i) = numN xs ^^^ (2 ^ k * (burst % 2 ^ i))
  | 0 => fun _ => by rw [Nat.pow_zero, Nat.mod_one, Nat.mul_zero, Nat.xor_zero]; rfl
  | i + 1 => fun hi => by
    have ih := turnN_num xs k burst h i (by omega)
    rw [turnN, low_more, mul_xor, ← Nat.xor_assoc, ← ih]
    split
    · rename_i hb
      rw [num_flip _ _ _ (by rw [turnN_length]; omega) (Nat.mod_lt _ (by decide)) (turnN_bytes xs k burst h i), show 8 * ((k + i) / 8) + (k + i) % 8 = k + i by omega, hb, Nat.mul_one, Nat.pow_add]
    · rename_i hb
      rw [show burst / 2 ^ i % 2 = 0 by omega, Nat.mul_zero, Nat.mul_zero, Nat.xor_zero]
/-- Another sum. -/
theorem turnN_ne (xs : List Nat) (k burst : Nat) (h : ∀ c ∈ xs, c < 256) (hk : k + 32 ≤ 8 * xs.length) (hb : burst < 4294967296) (h0 : burst ≠ 0) : sumsN 0 [turnN xs k burst 32] ≠ sumsN 0 [xs] := by
  intro he
  rw [sums_one, sums_one] at he
  have hn := turnN_num xs k burst h 32 hk
  rw [Nat.mod_eq_of_lt (show burst < 2 ^ 32 from hb)] at hn
  have hd := reg_diff ones32 (turnN xs k burst 32) xs (turnN_length xs k burst 32) (turnN_bytes xs k burst h 32) h _ hn
  have hz := burst_ne (8 * xs.length) k burst (by omega) hb h0
  unfold crcN at he
  have e2 : regN ones32 (turnN xs k burst 32) = regN ones32 xs := by
    have := congrArg (· ^^^ ones32) he
    simp only [Nat.xor_assoc, Nat.xor_self, Nat.xor_zero] at this
    exact this
  rw [hd] at e2
  apply hz
  have := congrArg (regN ones32 xs ^^^ ·) e2
  simp only [← Nat.xor_assoc, Nat.xor_self, Nat.zero_xor] at this
  exact this
theorem cell_below {w w' : World} (h : Below w.heap.size w w') {p : Addr} {v : Value} (hc : w.cell? p = some v) : w'.cell? p = some v :=
  (h.cell (World.block_lt_of_cell? w p hc)).trans hc
/-- The law's body at any input, where the table lies in its cells. -/
theorem walk (w : World) (htab : HalfTab w) (a0 : Option Addr) (len0 cap0 : Nat) (x0 : List Nat) (w0 : Arg w a0 len0 cap0 x0) (re0 : cap0 ≤ 140737488351232) (a1 : Int) (w1 : (Lit.int .u16 a1).wf = true) (a2 : Int) (w2 : (Lit.int .u32 a2).wf = true) :
    Calls Tryd.prog 8 #[.slice a0 len0 cap0, .int .u16 a1, .int .u32 a2] w fun e w' => e = .returned (.bool true) ∧ Below w.heap.size w w' := by
  obtain ⟨l1, h1⟩ := bounds_u16 w1
  obtain ⟨l2, h2⟩ := bounds_u32 w2
  obtain ⟨A, rfl⟩ := Int.eq_ofNat_of_zero_le l1
  obtain ⟨B, rfl⟩ := Int.eq_ofNat_of_zero_le l2
  have hA : A < 65536 := by omega
  have hB : B < 4294967296 := by omega
  have HT : Hid (HalfTab w) := htab
  have hl0 : len0 ≤ 140737488351232 := Nat.le_trans w0.2.2.2 re0
  have HA : Hid (Arg w a0 len0 cap0 x0) := w0
  clear w0 w1 w2 l1 l2 h1 h2 htab re0
  by_cases hq : len0 < 5 ∨ B = 0
  · have hdq : (decide ((len0 : Int) < 5) || ((B : Int) == 0)) = true := by
      simp
      omega
    go_enter Tryd.func8, Tryd.ntmps8
    go_wp2_with fail
    refine (awake_true w HT.out).mono ?_
    rintro e w1 ⟨rfl, hb1⟩
    have HT1 : Hid (HalfTab w1) := HalfTab.below HT.out hb1
    clear HT
    by_cases h5 : len0 < 5
    · go_wp2_with fail
      refine (awake_true w1 HT1.out).mono ?_
      rintro e w2 ⟨rfl, hb2⟩
      go_wp2_with fail
      go_ret
      exact ⟨rfl, hb1.trans (hb2.mono hb1.size)⟩
    · obtain rfl : B = 0 := by omega
      go_wp2_with fail
      refine (awake_true w1 HT1.out).mono ?_
      rintro e w2 ⟨rfl, hb2⟩
      go_wp2_with fail
      go_ret
      exact ⟨rfl, hb1.trans (hb2.mono hb1.size)⟩
  · have hB0 : B ≠ 0 := by omega
    have hlen : 5 ≤ len0 := by omega
    have hB0' : ¬ ((B : Int) = 0) := by omega
    clear hq
    go_enter Tryd.func8, Tryd.ntmps8
    go_wp2_with fail
    refine (awake_true w HT.out).mono ?_
    rintro e w1 ⟨rfl, hb1⟩
    have HT1 : Hid (HalfTab w1) := HalfTab.below HT.out hb1
    have HR1 : Hid (Row w1 a0 len0 x0) := Row.below HA.out.1 hb1
    have HB1 : Hid (Below w.heap.size w w1) := hb1
    clear hb1
    have hsz1 := HB1.out.size
    have HO : Hid (OwnN (w1.alloc (.cells #[] 5)) w.heap.size (.slice (some ⟨w1.heap.size, 0, none⟩) 0 0) []) := World.ownsRow_lit w1 #[] 0 hsz1 (by decide) rfl
    have hd5 : ¬ ((len0 : Int) < 5) := by omega
    have hbq : ((B : Int) == 0) = false := by simp; omega
    have HC : Hid (∀ ad, a0 = some ad → ∀ j, j < len0 → (w1.alloc (.cells #[] 5)).cell? (ad.add j) = some (.int .u8 (x0.getD j 0 : Nat))) := fun ad had j hj =>
      cell_below (Below.alloc HB1.out hsz1 _) (HA.out.2.2.1 ad had j hj)
    have HN : Hid (a0 = none → len0 = 0 ∧ cap0 = 0) := HA.out.2.1
    have HX : Hid (x0.length = len0) := HA.out.1.1
    have HXB : Hid (∀ c ∈ x0, c < 256) := HA.out.1.2.2.1
    have hsza : w.heap.size ≤ (w1.alloc (.cells #[] 5)).heap.size := by simp; omega
    have HB2 : Hid (Below w.heap.size w (w1.alloc (.cells #[] 5))) := Below.alloc HB1.out hsz1 _
    have HRW : Hid (Row w a0 len0 x0) := HA.out.1
    obtain ⟨K, hKe, hKl⟩ : ∃ K : Nat, (A : Int) % ((len0 : Int) * 8 - 31) = (K : Int) ∧ K + 32 ≤ 8 * len0 := by
      refine ⟨A % (8 * len0 - 31), ?_, ?_⟩
      · rw [show (len0 : Int) * 8 - 31 = ((8 * len0 - 31 : Nat) : Int) by omega]
        exact (Int.natCast_emod _ _).symm
      · have := Nat.mod_lt A (show 8 * len0 - 31 > 0 by omega)
        omega
    clear HA HB1
    go_wp2_with (at_builtin; (refine append_row _ rfl (.tmp 22) (.tmp 23) rfl w.heap.size (.slice (some ⟨w1.heap.size, 0, none⟩) 0 0) [] x0 rfl HO.out a0 len0 cap0 rfl HX.out HN.out HC.out (by simp; omega) hsza ?_; intro v1 w3 hown3 hb3))
    have HB3 : Hid (Below w.heap.size w w3) := HB2.out.trans hb3
    rw [List.nil_append] at hown3
    have HO3 : Hid (OwnN w3 w.heap.size v1 x0) := hown3
    obtain ⟨g, cg, rfl, hgb, -, -, -, -⟩ := OwnN.at hown3 0 (by have := HX.out; omega)
    rw [HX.out] at HO3 ⊢
    rw [hKe]
    clear hown3 hb3 HB2 HC HN HO hKe
    go_loopw [9] (fun i wr => ∃ j : Nat, j ≤ 32 ∧ i = .int .i64 j ∧ OwnN wr w.heap.size (.slice (some ⟨g, 0, none⟩) len0 cg) (turnN x0 K B j) ∧ Below w.heap.size w wr) (fun i _ => 32 - (intOf i).toNat)
    case atStart => exact ⟨0, Nat.zero_le _, rfl, HO3.out, HB3.out⟩
    case round =>
      obtain ⟨j, hj, rfl, hown, hbe⟩ := hrel
      rename_i wr _
      have HOWN : Hid (OwnN wr w.heap.size (.slice (some ⟨g, 0, none⟩) len0 cg) (turnN x0 K B j)) := hown
      have HBE : Hid (Below w.heap.size w wr) := hbe
      clear hown hbe HO3 HB3
      by_cases hlt : j < 32
      · have hd := bit_tmod B j
        have hd2 : B / 2 ^ j % 2 < 2 := Nat.mod_lt _ (by decide)
        have HS : Hid (turnN x0 K B (j + 1) = if B / 2 ^ j % 2 = 1 then (turnN x0 K B j).set ((K + j) / 8) ((turnN x0 K B j).getD ((K + j) / 8) 0 ^^^ 2 ^ ((K + j) % 8)) else turnN x0 K B j) := rfl
        have hlt8 : (K + j) / 8 < len0 := by omega
        have hTl : (turnN x0 K B j).length = len0 := by rw [turnN_length]; exact HX.out
        have hTb := getD_lt _ (turnN_bytes x0 K B HXB.out j) ((K + j) / 8)
        generalize turnN x0 K B j = l at *
        generalize B / 2 ^ j % 2 = d at *
        obtain rfl | rfl : d = 0 ∨ d = 1 := by omega
        · have ht : (((0 : Nat) : Int) == 1) = false := by decide
          go_wp2_with fail
          go_roundw
          case rel => exact ⟨j + 1, by omega, by go_num, by rw [HS.out, if_neg (by decide)]; exact HOWN.out, HBE.out⟩
          case measure => simp [intOf]; omega
        · have ht : (((1 : Nat) : Int) == 1) = true := by decide
          obtain ⟨g', cg', heq, hg', -, hcell, hfr, hset⟩ := OwnN.at HOWN.out ((K + j) / 8) (by omega)
          obtain ⟨rfl, -⟩ : g = g' ∧ True := by
            simp only [Value.slice.injEq, Option.some.injEq, Addr.mk.injEq, and_true] at heq
            exact ⟨heq.1, trivial⟩
          have HSET : Hid (∀ y : Nat, OwnN (wr.setCell ⟨g, (K + j) / 8, none⟩ (.int .u8 y)) w.heap.size (.slice (some ⟨g, 0, none⟩) len0 cg) (l.set ((K + j) / 8) y)) := hset
          clear hset heq
          generalize l.getD ((K + j) / 8) 0 = c at *
          go_wp2_with fail
          have hval : bits .xor .u8 (c : Int) (2 ^ ((K + j) % 8) % 256) = ((c ^^^ 2 ^ ((K + j) % 8) : Nat) : Int) := by
            have hp : 2 ^ ((K + j) % 8) < 256 := Nat.pow_lt_pow_right (n := 8) (by decide) (Nat.mod_lt _ (by decide))
            have e : (2 : Int) ^ ((K + j) % 8) % 256 = ((2 ^ ((K + j) % 8) : Nat) : Int) := by
              have e1 : (2 : Int) ^ ((K + j) % 8) = ((2 ^ ((K + j) % 8) : Nat) : Int) := by simp
              rw [e1]
              exact Int.emod_eq_of_lt (Int.natCast_nonneg _) (Int.ofNat_lt.2 hp)
            rw [e]
            exact u8_xor_nat c _ hTb hp
          rw [hval]
          go_roundw
          case rel =>
            refine ⟨j + 1, by omega, by go_num, ?_, Below.setCell HBE.out hg' _⟩
            rw [HS.out, if_pos rfl]
            exact HSET.out _
          case measure => simp [intOf]; omega
      · obtain rfl : j = 32 := by omega
        have hNE := turnN_ne x0 K B HXB.out (by have := HX.out; omega) hB hB0
        have hTl : (turnN x0 K B 32).length = len0 := by rw [turnN_length]; exact HX.out
        obtain ⟨ax, cx, heq, hrow⟩ := OwnN.row HOWN.out (by rw [hTl]; unfold maxLen; omega) (turnN_bytes x0 K B HXB.out 32)
        rw [hTl] at hrow heq
        generalize turnN x0 K B 32 = T at *
        have hax : ax = some ⟨g, 0, none⟩ := by
          simp only [Value.slice.injEq] at heq
          exact heq.1.symm
        subst hax
        have HROW : Hid (Row wr (some ⟨g, 0, none⟩) len0 T) := hrow
        have HTR : Hid (HalfTab wr) := HalfTab.below HT.out HBE.out
        have HRR : Hid (Row wr a0 len0 x0) := Row.below HRW.out HBE.out
        have HNE : Hid (sumsN 0 [T] ≠ sumsN 0 [x0]) := hNE
        clear hrow heq HOWN HT HRW hTl hNE
        go_wp2_with fail
        have hb4 := below_new wr (.cells #[.slice (some ⟨g, 0, none⟩) len0 cg] 23)
        have HP4 : Hid (Parts (wr.alloc (.cells #[.slice (some ⟨g, 0, none⟩) len0 cg] 23)) (some ⟨wr.heap.size, 0, none⟩) 1 [T]) := parts_alloc1 wr _ len0 cg T HROW.out
        have HT4 : Hid (HalfTab (wr.alloc (.cells #[.slice (some ⟨g, 0, none⟩) len0 cg] 23))) := HalfTab.below HTR.out hb4
        have HR4 : Hid (Row (wr.alloc (.cells #[.slice (some ⟨g, 0, none⟩) len0 cg] 23)) a0 len0 x0) := Row.below HRR.out hb4
        have HB4 : Hid (Below w.heap.size w (wr.alloc (.cells #[.slice (some ⟨g, 0, none⟩) len0 cg] 23))) := Below.alloc HBE.out HBE.out.size _
        clear hb4 HROW HTR HRR HBE
        generalize wr.alloc (.cells #[.slice (some ⟨g, 0, none⟩) len0 cg] 23) = w4 at *
        refine (sum_any _ 1 1 [T] w4 HP4.out HT4.out).mono ?_
        rintro e w5 ⟨rfl, rfl⟩
        clear HP4
        go_wp2_with fail
        have hb6 := below_new w5 (.cells #[.slice a0 len0 cap0] 23)
        have HP6 : Hid (Parts (w5.alloc (.cells #[.slice a0 len0 cap0] 23)) (some ⟨w5.heap.size, 0, none⟩) 1 [x0]) := parts_alloc1 w5 _ len0 cap0 x0 HR4.out
        have HT6 : Hid (HalfTab (w5.alloc (.cells #[.slice a0 len0 cap0] 23))) := HalfTab.below HT4.out hb6
        have HB6 : Hid (Below w.heap.size w (w5.alloc (.cells #[.slice a0 len0 cap0] 23))) := Below.alloc HB4.out HB4.out.size _
        clear hb6 HR4 HB4 HT4
        generalize w5.alloc (.cells #[.slice a0 len0 cap0] 23) = w6 at *
        refine (sum_any _ 1 1 [x0] w6 HP6.out HT6.out).mono ?_
        rintro e w7 ⟨rfl, rfl⟩
        clear HP6
        generalize sumsN 0 [T] = S1 at *
        generalize sumsN 0 [x0] = S2 at *
        have hne : ((S1 : Int) != (S2 : Int)) = true := by
          have := HNE.out
          simp
          omega
        go_wp2_with fail
        go_ret
        exact ⟨rfl, HB6.out⟩
theorem contract (H : Type) (enc : TypeId × Value → H) (W : World) (base : Nat) (args : Array Value) (ds gs : List (DataW H)) (before : List MemPlace)
    (hval : ∀ (j : Nat) t v, Tryd.f8.params[j]? = some t → args[j]? = some v → Value.okWide Tryd.prog W .any base t v)
    (hW : DataW.Whole enc Tryd.prog Tryd.f8.params.toList Rows.crcFindsSpec.vars false W args.toList ds gs before)
    (hsz : (DataW.weightsEach Tryd.prog (Tryd.f8.params.toList ++ (OpenSpec.ofChange Rows.crcFindsSpec).bare.plain.varTypes Tryd.prog) (ds ++ gs)).all (· ≤ reachBytes) = true) (hL : laidMetH Tryd.prog Rows.crcFindsRow.laid W) :
    Calls Tryd.prog 8 args W fun e W' => ∃ v, e = .returned v ∧ Rows.crcFindsSpec.post enc Tryd.prog Tryd.f8 false true false false W args v W' := by
  have hW' := hW
  obtain ⟨p, q, hA0, hV, rfl, hfz, hnd⟩ := hW
  have hA : DataW.TrodAll enc Tryd.prog W 0 (fun _ => true) true Tryd.f8.params.toList args.toList ds p := hA0
  rw [Tryd.params8] at hA hval hsz
  obtain ⟨v0, vs0, d0, ds0, p0, q0, hargs, rfl, rfl, h0, r0⟩ := trodAll_cons hA
  obtain ⟨v1, vs1, d1, ds1, p1, q1, rfl, rfl, rfl, h1, r1⟩ := trodAll_cons r0
  obtain ⟨v2, vs2, d2, ds2, p2, q2, rfl, rfl, rfl, h2, r2⟩ := trodAll_cons r1
  obtain ⟨rfl, rfl, rfl⟩ := trodAll_nil r2
  obtain rfl : args = #[v0, v1, v2] := by cases args; simp_all
  obtain ⟨rfl, rfl⟩ := trodVars_none hV
  obtain ⟨a0, len0, cap0, rfl⟩ := okWide_slice Tryd.underlying23 (hval 0 23 v0 rfl rfl)
  have k0 := h0
  have lt0 : ∀ x ∈ p0, x.block < W.heap.size := by obtain ⟨m, hm⟩ := k0; exact DataW.trod_lt m _ _ _ hm
  obtain ⟨z0, y0, re0⟩ : ∃ zs, IsRow .u8 W a0 len0 cap0 zs ∧ cap0 ≤ 140737488351232 := by
    obtain ⟨fuel, hf⟩ := h0
    rcases open_ints Tryd.underlying23 Tryd.underlying5 (by kernel_rfl) hf with ⟨hcs, _⟩ | ⟨x, l, c, zs, hcs, _, hl, hm, hz, hx, hcell, hwz⟩
    · simp [Value.cells] at hcs
      obtain ⟨rfl, rfl, rfl⟩ := hcs
      exact ⟨[], .inl ⟨rfl, rfl, rfl, rfl⟩, by omega⟩
    · simp [Value.cells] at hcs
      obtain ⟨rfl, rfl, rfl⟩ := hcs
      have hd := congrArg Prod.fst hx
      simp only [] at hd
      have hz' : zs.length = cap0 := by simpa using hz
      have hb := sized_slice hsz (j := 0) (t := 23) (e := 5) rfl (by rw [hd]; rfl) Tryd.underlying23
      have hby : Tryd.prog.bytesOf 5 = 1 := by kernel_rfl
      rw [hby] at hb
      simp only [lits, List.length_map, List.length_take, List.length_drop, reachBytes] at hb
      exact ⟨zs, .inr ⟨_, rfl, hl, hm, hz', hcell, hwz⟩, by omega⟩
  obtain ⟨x0, w0⟩ := arg_of y0
  obtain ⟨a1, rfl, rfl, rfl, w1⟩ := open_int Tryd.underlying36 (hval 1 36 v1 rfl rfl) h1
  obtain ⟨a2, rfl, rfl, rfl, w2⟩ := open_int Tryd.underlying24 (hval 2 24 v2 rfl rfl) h2
  clear hA0 hsz
  refine (walk W (table hL) a0 len0 cap0 x0 w0 re0 a1 w1 a2 w2).mono fun e W' ⟨he, bel⟩ => ?_
  subst he
  exact ⟨_, rfl, _, _, _, [], _, [], hW', trodAll_mk1 (shut_bool Tryd.underlying4 _), (trodAll_cons_mk (Below.trod laidOut (by kernel_rfl) (of_decide_eq_true (by kernel_rfl)) k0 bel lt0) (trodAll_cons_mk (shut_int Tryd.underlying36 w1) (trodAll_cons_mk (shut_int Tryd.underlying24 w2) trodAll_mk0))), rfl, bel.frame _, fun h => by cases h⟩
set_option maxRecDepth 100000 in
theorem lifted (os : Os) (started : os.Started) (H : Type) (enc : TypeId × Value → H) (I : Stop.Interp) :
    ReturnsInHanded {} Tryd.checked os 8 .any ((OpenSpec.ofChange Rows.crcFindsSpec).preRow enc Tryd.prog Tryd.f8 Rows.crcFindsRow.domain false Rows.crcFindsRow.laid) (((OpenSpec.ofChange Rows.crcFindsSpec).at I).post enc Tryd.prog Tryd.f8 false true false false) := by
  refine returnsInHanded_of_row (C := Tryd.checked) (s := OpenSpec.ofChange Rows.crcFindsSpec) own started (by kernel_rfl) Tryd.func8
    (witness_row_at (enc := enc) (C := Tryd.checked) false { World.holding Tryd.prog os ⟨#[], #[], []⟩ with heap := (World.holding Tryd.prog os ⟨#[], #[], []⟩).heap.modify 0 fun
        | .cells _ t frozen => .cells #[.int .u32 0, .int .u32 274646895, .int .u32 549293790, .int .u32 820201905, .int .u32 1098587580, .int .u32 1361435347, .int .u32 1640403810, .int .u32 1905808397, .int .u32 2197175160, .int .u32 2460548119, .int .u32 2722870694, .int .u32 2987750089, .int .u32 3280807620, .int .u32 3553878443, .int .u32 3811616794, .int .u32 4084100981] t frozen
        | o => o } #[.slice none 0 0, .int .u16 0, .int .u32 0] rfl (by kernel_rfl) (by kernel_rfl) (by kernel_rfl)
      (OpenSpec.preRow_of_cond 8 (x := ([.nil, .lit (.int .u16 0), .lit (.int .u32 0)], [], [])) (by kernel_rfl) (by kernel_rfl) (fun k hk => by cases hk) (by kernel_rfl) (laidMet_of_run' 8 (by kernel_rfl) (by kernel_rfl)))) ?_
  intro W base args ds gs before hval hW _ _ hsz hL _ _
  exact contract H enc W base args ds gs before hval hW hsz hL
theorem said : Rows.CrcFindsSaid :=
  OpenClaim.holds_of_cond 8 Tryd.f8 rfl rfl rfl rfl rfl rfl rfl ⟨rfl, rfl, rfl, rfl, rfl⟩ rfl rfl rfl rfl rfl (by kernel_rfl) Tryd.func8 (by kernel_rfl)
    (of_decide_eq_true (by kernel_rfl)) (by unfold Func.isWrapper; first | (rw [if_pos (by decide +kernel)]; kernel_rfl) | (rw [if_neg (by decide +kernel)]; exact ⟨rfl, rfl⟩))
    (fun os started H enc _ I => by rw [OpenClaim.pre_eq_preRow]; exact lifted os started H enc I)
theorem plain (f : FuncId) (fn : Func) (hf : Tryd.pinned.checked.prog.funcNamed Rows.crcFindsRow.func = some f) (hfn : Tryd.pinned.checked.prog.funcs[f]? = some fn) :
    false = Tryd.pinned.checked.prog.looks [] ∧ ∀ (j : Nat) t, fn.params[j]? = some t → Tryd.pinned.checked.prog.wantsStandIn t = false := by
  obtain rfl : f = 8 := Option.some.inj ((show Tryd.prog.funcNamed Rows.crcFindsRow.func = some 8 by kernel_rfl).symm.trans hf) |>.symm
  obtain rfl : fn = Tryd.f8 := (Option.some.inj (Tryd.func8.symm.trans hfn)).symm
  refine ⟨by kernel_rfl, fun j t ht => ?_⟩
  rw [Tryd.params8] at ht
  have hm := Array.mem_of_getElem? ht
  simp only [List.mem_toArray, List.mem_cons, List.not_mem_nil, or_false] at hm
  rcases hm with rfl | rfl | rfl
  · exact (show Tryd.prog.wantsStandIn 23 = false by kernel_rfl)
  · exact (show Tryd.prog.wantsStandIn 36 = false by kernel_rfl)
  · exact (show Tryd.prog.wantsStandIn 24 = false by kernel_rfl)
theorem card : Rows.CrcFindsCardSaid :=
  Claim7.holds_tied_plain_at .later [] _ _ _ _ said (fun _ h => by cases h) (by kernel_rfl) (fun _ h => by cases h) crcFinds_row_tie rfl ⟨rfl, rfl⟩ (by kernel_rfl) rfl plain (by kernel_rfl)
#print axioms card
end Go.Proofs.YtlfcgdcahfcanaaDoor.crcFinds
