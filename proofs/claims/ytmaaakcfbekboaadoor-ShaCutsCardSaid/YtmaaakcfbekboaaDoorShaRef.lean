/-
  'Sum' of the document's answer: the digest of any bytes, as a plain function of them.
-/
import Derived.Test.YtmaaakcfbekboaaDoorShaPrimes
import Derived.Test.YtmaaakcfbekboaaDoorShaBlock
import Derived.Test.YtmaaakcfbekboaaDoorByVal
namespace Go.Proofs.YtmaaakcfbekboaaDoor
open Go.ChangeShapes Go.WideShapes Go.ChangeAt Go.RowKit
set_option linter.unusedVariables false
set_option linter.unusedSimpArgs false
/-- How many noughts stand behind the first sign of a text's end. -/
def zcN (n : Nat) : Nat := (119 - n % 64) % 64
/-- The first m bytes of a length of 64 bits. -/
def szN (s : Nat) : Nat → List Nat
  | 0 => []
  | m + 1 => szN s m ++ [s / 2 ^ (8 * (7 - m)) % 256]
theorem szN_length (s : Nat) : ∀ m, (szN s m).length = m
  | 0 => rfl
  | m + 1 => by rw [szN, List.length_append, szN_length s m]; rfl
def padN (n : Nat) : List Nat := [128] ++ List.replicate (zcN n) 0 ++ szN (8 * n) 8
theorem padN_length (n : Nat) : (padN n).length = 9 + zcN n := by
  unfold padN
  rw [List.length_append, List.length_append, szN_length, List.length_replicate]
  simp
  omega
theorem pad_whole (n : Nat) : (n + (padN n).length) % 64 = 0 := by
  rw [padN_length]
  unfold zcN
  omega
/-- The words behind so many blocks of a text. -/
def blks (ks h l : List Nat) : Nat → List Nat
  | 0 => h
  | n + 1 => blockN ks (blks ks h l n) ((l.drop (64 * n)).take 64)
theorem blks_length (ks h l : List Nat) (hh : h.length = 8) : ∀ n, (blks ks h l n).length = 8
  | 0 => hh
  | n + 1 => blockN_length _ _ _ (blks_length ks h l hh n)
theorem blks_lt (ks h l : List Nat) (hh : ∀ j, h.getD j 0 < 4294967296) : ∀ n j, (blks ks h l n).getD j 0 < 4294967296
  | 0, j => hh j
  | n + 1, j => blockN_lt _ _ _ (blks_lt ks h l hh n) j
/-- Words as bytes. -/
def outN (h : List Nat) : Nat → List Nat
  | 0 => []
  | i + 1 => outN h i ++ [h.getD (i / 4) 0 / 2 ^ (24 - 8 * (i % 4)) % 256]
theorem outN_length (h : List Nat) : ∀ i, (outN h i).length = i
  | 0 => rfl
  | i + 1 => by rw [outN, List.length_append, outN_length h i]; rfl
/-- The digest. -/
def shaN (xs : List Nat) : List Nat := outN (blks factorsN startN (xs ++ padN xs.length) ((xs.length + (padN xs.length).length) / 64)) 32
theorem shaN_length (xs : List Nat) : (shaN xs).length = 32 := outN_length _ 32
theorem factors_length : factorsN.length = 64 := by rw [factors_are]; rfl
theorem start_length : startN.length = 8 := by rw [start_is]; rfl
theorem map_at (f : Nat → Nat) (l : List Nat) (i : Nat) (h : i < l.length) : (l.map f).getD i 0 = f (l.getD i 0) := by simp [List.getD, h]
theorem factors_at (i : Nat) (h : i < 64) : factorsN.getD i 0 = rootN true (primesN.getD i 0) := by
  unfold factorsN
  exact map_at (rootN true) primesN i (by rw [primes_length]; exact h)
theorem start_at (i : Nat) (h : i < 8) : startN.getD i 0 = rootN false (primesN.getD i 0) := by
  unfold startN
  rw [getD_take primesN 8 i h]
  exact map_at (rootN false) (primesN.take 8) i (by rw [List.length_take, primes_length]; omega)
theorem factors_lt (j : Nat) : factorsN.getD j 0 < 4294967296 := by
  by_cases h : j < 64
  · rw [factors_at j h]; exact Nat.mod_lt _ (by decide)
  · rw [List.getD_eq_getElem?_getD, List.getElem?_eq_none (by rw [factors_length]; omega)]; decide
theorem start_lt (j : Nat) : startN.getD j 0 < 4294967296 := by
  by_cases h : j < 8
  · rw [start_at j h]; exact Nat.mod_lt _ (by decide)
  · rw [List.getD_eq_getElem?_getD, List.getElem?_eq_none (by rw [start_length]; omega)]; decide
theorem primes_lt (i : Nat) (h : i < 64) : primesN.getD i 0 < B32 := by
  have hl : primesN.length = 64 := primes_length
  have : primesN.getD i 0 ∈ primesN := by
    rw [List.getD_eq_getElem?_getD, List.getElem?_eq_getElem (by omega : i < primesN.length)]
    exact List.getElem_mem _
  have := (pr_range 310 _ this).2
  unfold B32
  omega
theorem list_eq {l m : List Nat} (h : l.length = m.length) (he : ∀ j, j < l.length → l.getD j 0 = m.getD j 0) : l = m := by
  apply List.ext_getElem?
  intro i
  by_cases hi : i < l.length
  · have := he i hi
    rw [List.getElem?_eq_getElem hi, List.getElem?_eq_getElem (by omega)]
    simpa [List.getD, hi, (by omega : i < m.length)] using this
  · rw [List.getElem?_eq_none (by omega), List.getElem?_eq_none (by omega)]
theorem digT : ArrT 25 32 := ⟨by kernel_rfl, _, Tryd.underlying25⟩
def zeros32 : List Nat := List.replicate 32 0
theorem digAlloc (w : World) : (Instr.alloc 25 true (.tuple #[])).run Tryd.prog w = .ok (.pointer (some ⟨w.heap.size, 0, none⟩)) (w.alloc (.cells (encL .u8 zeros32) 25)) := by kernel_rfl
theorem digBuild (w : World) : (Instr.build 25 #[]).run Tryd.prog w = .ok (.agg (encL .u8 zeros32)) w := by kernel_rfl
theorem numT8 : NumT 28 5 .u8 1 := ⟨by kernel_rfl, Tryd.underlying28⟩
theorem szN_lt (s : Nat) : ∀ m j, (szN s m).getD j 0 < 256
  | 0, j => by show ([] : List Nat).getD j 0 < 256; simp
  | m + 1, j => getD_snoc_lt (szN_lt s m) (Nat.mod_lt _ (by decide)) (by decide) j
theorem getD_app (l m : List Nat) (c : Nat) (h1 : ∀ j, l.getD j 0 < c) (h2 : ∀ j, m.getD j 0 < c) : ∀ j, (l ++ m).getD j 0 < c := by
  intro j
  by_cases hj : j < l.length
  · rw [List.getD_eq_getElem?_getD, List.getElem?_append_left hj, ← List.getD_eq_getElem?_getD]; exact h1 j
  · rw [List.getD_eq_getElem?_getD, List.getElem?_append_right (by omega), ← List.getD_eq_getElem?_getD]; exact h2 _
theorem padded_lt (xs : List Nat) (h : ∀ j, xs.getD j 0 < 256) : ∀ j, (xs ++ padN xs.length).getD j 0 < 256 := by
  refine getD_app _ _ 256 h ?_
  unfold padN
  refine getD_app _ _ 256 (getD_app _ _ 256 ?_ ?_) (szN_lt _ 8)
  · intro j
    match j with
    | 0 => decide
    | (j + 1) => show 0 < 256; decide
  · intro j; rw [zeros_getD]; decide
def lenOf : Value → Nat | .slice _ n _ => n | _ => 0
def zeros8 : List Nat := List.replicate 8 0
def zeros64 : List Nat := List.replicate 64 0
set_option maxRecDepth 100000 in
set_option maxHeartbeats 8000000 in
theorem rsum_any (a : Option Addr) (len cap : Nat) (xs : List Nat) (w : World) (hr : RowL .u8 w a len xs) (hx : ∀ j, xs.getD j 0 < 256) (hnil : a = none → len = 0 ∧ cap = 0) (hl : len ≤ 140737488351232) :
    Calls Tryd.prog 9 #[.slice a len cap] w fun e w' => e = .returned (.agg (encL .u8 (shaN xs))) ∧ Below w.heap.size w w' := by
  have HR : Hid (RowL .u8 w a len xs) := hr
  have HX : Hid (∀ j, xs.getD j 0 < 256) := hx
  have HN : Hid (a = none → len = 0 ∧ cap = 0) := hnil
  have hxl : xs.length = len := hr.1
  clear hr hx hnil
  go_enter Tryd.func9, Tryd.ntmps9
  go_wp2_with (refine alloc_op rfl 25 rfl _ (digAlloc _) ?_)
  have HBE0 : Hid (Below w.heap.size w (w.alloc (.cells (encL .u8 zeros32) 25))) := below_new w _
  have HBR0 : Hid (Blk (w.alloc (.cells (encL .u8 zeros32) 25)) w.heap.size 25 .u8 zeros32) := Blk.new w _ _ _
  generalize w.alloc (.cells (encL .u8 zeros32) 25) = w0 at *
  refine (primes_any w0).mono ?_
  rintro e w1 ⟨gp, cp, rfl, hp1, hb1⟩
  have HBE1 : Hid (Below w.heap.size w w1) := HBE0.out.trans (hb1.mono HBE0.out.size)
  have HBR1 : Hid (Blk w1 w.heap.size 25 .u8 zeros32) := HBR0.out.below hb1
  have HP1 : Hid (RowL .u64 w1 (some ⟨gp, 0, none⟩) 64 primesN) := hp1
  clear hp1 hb1 HBE0 HBR0
  have hmk8 : Sem.run Tryd.prog (Instr.makeSlice 41 (Value.int IntKind.i64 8) (Value.int IntKind.i64 8)) w1 = .ok (.slice (some ⟨w1.heap.size, 0, none⟩) 8 8) (w1.alloc (.cells (encL .u32 zeros8) 42)) := make_num numT32 w1 8 (by decide) (by decide)
  have hmk64 : Sem.run Tryd.prog (Instr.makeSlice 41 (Value.int IntKind.i64 64) (Value.int IntKind.i64 64)) (w1.alloc (.cells (encL .u32 zeros8) 42)) = .ok (.slice (some ⟨w1.heap.size + 1, 0, none⟩) 64 64) ((w1.alloc (.cells (encL .u32 zeros8) 42)).alloc (.cells (encL .u32 zeros64) 42)) := by
    have := make_num numT32 (w1.alloc (.cells (encL .u32 zeros8) 42)) 64 (by decide) (by decide)
    rw [World.size_alloc] at this
    exact this
  go_wp2_with fail
  clear hmk8 hmk64
  have HBE2 : Hid (Below w.heap.size w ((w1.alloc (.cells (encL .u32 zeros8) 42)).alloc (.cells (encL .u32 zeros64) 42))) := Below.alloc (Below.alloc HBE1.out HBE1.out.size _) (by have := HBE1.out.size; simp; omega) _
  have HB12 : Hid (Below w1.heap.size w1 ((w1.alloc (.cells (encL .u32 zeros8) 42)).alloc (.cells (encL .u32 zeros64) 42))) := Below.alloc (below_new w1 _) (by simp) _
  have HBH2 : Hid (Blk ((w1.alloc (.cells (encL .u32 zeros8) 42)).alloc (.cells (encL .u32 zeros64) 42)) w1.heap.size 42 .u32 zeros8) := (Blk.new w1 _ _ _).alloc _
  have HBK2 : Hid (Blk ((w1.alloc (.cells (encL .u32 zeros8) 42)).alloc (.cells (encL .u32 zeros64) 42)) (w1.heap.size + 1) 42 .u32 zeros64) := by
    have := Blk.new (w1.alloc (.cells (encL .u32 zeros8) 42)) 42 .u32 zeros64
    rw [World.size_alloc] at this
    exact this
  generalize ((w1.alloc (.cells (encL .u32 zeros8) 42)).alloc (.cells (encL .u32 zeros64) 42)) = w2 at *
  go_loopw [6] (fun ix wr => ∃ (wz : World) (i : Nat) (KL HL : List Nat), wz = wr ∧ i ≤ 64 ∧ ix = .int .i64 i ∧ KL.length = 64 ∧ HL.length = 8 ∧ (∀ j, j < i → KL.getD j 0 = factorsN.getD j 0) ∧ (∀ j, j < i → j < 8 → HL.getD j 0 = startN.getD j 0) ∧ Blk wz w1.heap.size 42 .u32 HL ∧ Blk wz (w1.heap.size + 1) 42 .u32 KL ∧ Below w1.heap.size w1 wz ∧ Below w.heap.size w wz) (fun ix _ => 64 - (intOf ix).toNat)
  case atStart => exact ⟨w2, 0, zeros64, zeros8, rfl, by omega, rfl, rfl, rfl, (fun j h => by omega), (fun j h => by omega), HBH2.out, HBK2.out, HB12.out, HBE2.out⟩
  case round =>
    clear HBE2 HB12 HBH2 HBK2
    obtain ⟨wr, i, KL, HL, hwr, hi, rfl, hKl, hHl, hKv, hHv, hbh, hbk, hb1, hbe⟩ := hrel
    subst hwr
    have HKV : Hid (KL.length = 64 ∧ ∀ j, j < i → KL.getD j 0 = factorsN.getD j 0) := ⟨hKl, hKv⟩
    have HHV : Hid (HL.length = 8 ∧ ∀ j, j < i → j < 8 → HL.getD j 0 = startN.getD j 0) := ⟨hHl, hHv⟩
    have HBH : Hid (Blk wr w1.heap.size 42 .u32 HL) := hbh
    have HBK : Hid (Blk wr (w1.heap.size + 1) 42 .u32 KL) := hbk
    have HB1 : Hid (Below w1.heap.size w1 wr) := hb1
    have HBE : Hid (Below w.heap.size w wr) := hbe
    clear hKl hHl hKv hHv hbh hbk hb1 hbe
    by_cases hlt : i < 64
    · obtain ⟨bp, op, hpe, hbp, hcp⟩ := RowL.at HP1.out i hlt
      simp only [Option.some.injEq, Addr.mk.injEq, and_true] at hpe
      obtain ⟨rfl, rfl⟩ := hpe
      have cp1 : w1.cell? ⟨gp, 0 + i, none⟩ = some (.int .u64 (primesN.getD i 0 : Nat)) := hcp i hlt
      rw [Nat.zero_add] at cp1
      have cp2 : wr.cell? ⟨gp, i, none⟩ = some (.int .u64 (primesN.getD i 0 : Nat)) := (HB1.out.cell (p := ⟨gp, i, none⟩) hbp).trans cp1
      have hpl := primes_lt i hlt
      have HF : Hid (rootN true (primesN.getD i 0) = factorsN.getD i 0) := (factors_at i hlt).symm
      have HS : Hid (i < 8 → rootN false (primesN.getD i 0) = startN.getD i 0) := fun h => (start_at i h).symm
      have HCP : Hid (gp < w1.heap.size ∧ w1.cell? ⟨gp, i, none⟩ = some (.int .u64 (primesN.getD i 0 : Nat))) := ⟨hbp, cp1⟩
      generalize primesN.getD i 0 = pp at *
      obtain ⟨ff, hff⟩ : ∃ ff, ff = factorsN.getD i 0 := ⟨_, rfl⟩
      obtain ⟨ss, hss⟩ : ∃ ss, ss = startN.getD i 0 := ⟨_, rfl⟩
      rw [← hff] at HF
      rw [← hss] at HS
      have HFF : Hid (ff = factorsN.getD i 0) := hff
      have HSS : Hid (ss = startN.getD i 0) := hss
      clear hff hss
      clear hcp cp1 hbp
      have i64 : (i : Int) < 64 := by omega
      go_wp2_with fail
      refine (root_any pp true wr hpl).mono ?_
      rintro e w3 ⟨rfl, hb3⟩
      rw [HF.out]
      have HBH3 : Hid (Blk w3 w1.heap.size 42 .u32 HL) := HBH.out.below hb3
      have HBK3 : Hid (Blk w3 (w1.heap.size + 1) 42 .u32 KL) := HBK.out.below hb3
      have HB13 : Hid (Below w1.heap.size w1 w3) := HB1.out.trans (hb3.mono HB1.out.size)
      have HBE3 : Hid (Below w.heap.size w w3) := HBE.out.trans (hb3.mono HBE.out.size)
      have ck : w3.cell? ⟨w1.heap.size + 1, i, none⟩ = some (.int .u32 (KL.getD i 0 : Nat)) := HBK3.out.cell i (by rw [HKV.out.1]; exact hlt)
      have fk := HBK3.out.frozen i
      clear HBH HBK HB1 HBE hb3 cp2
      have hs1 := HBE1.out.size
      by_cases h8 : i < 8
      · have i8 : (i : Int) < 8 := by omega
        have cp3 : w3.cell? ⟨gp, i, none⟩ = some (.int .u64 (pp : Nat)) := (HB13.out.cell (p := ⟨gp, i, none⟩) HCP.out.1).trans HCP.out.2
        have hne : ¬ gp = w1.heap.size + 1 := by have := HCP.out.1; omega
        have hne' : ¬ w1.heap.size + 1 = gp := by have := HCP.out.1; omega
        have HBH4 : Hid (Blk (w3.setCell ⟨w1.heap.size + 1, i, none⟩ (.int .u32 (ff : Nat))) w1.heap.size 42 .u32 HL) := HBH3.out.other (by omega) _ _
        have HBK4 : Hid (Blk (w3.setCell ⟨w1.heap.size + 1, i, none⟩ (.int .u32 (ff : Nat))) (w1.heap.size + 1) 42 .u32 (KL.set i ff)) := HBK3.out.set _ _
        have HB14 : Hid (Below w1.heap.size w1 (w3.setCell ⟨w1.heap.size + 1, i, none⟩ (.int .u32 (ff : Nat)))) := Below.setCell HB13.out (by show w1.heap.size ≤ w1.heap.size + 1; omega) _
        have HBE4 : Hid (Below w.heap.size w (w3.setCell ⟨w1.heap.size + 1, i, none⟩ (.int .u32 (ff : Nat)))) := Below.setCell HBE3.out (by show w.heap.size ≤ w1.heap.size + 1; omega) _
        go_wp2_with fail
        generalize w3.setCell ⟨w1.heap.size + 1, i, none⟩ (.int .u32 (ff : Nat)) = w4 at *
        clear HBH3 HBK3 HB13 HBE3 ck fk
        refine (root_any pp false w4 hpl).mono ?_
        rintro e w5 ⟨rfl, hb5⟩
        rw [HS.out h8]
        have HBH5 : Hid (Blk w5 w1.heap.size 42 .u32 HL) := HBH4.out.below hb5
        have HBK5 : Hid (Blk w5 (w1.heap.size + 1) 42 .u32 (KL.set i ff)) := HBK4.out.below hb5
        have HB15 : Hid (Below w1.heap.size w1 w5) := HB14.out.trans (hb5.mono HB14.out.size)
        have HBE5 : Hid (Below w.heap.size w w5) := HBE4.out.trans (hb5.mono HBE4.out.size)
        have chh : w5.cell? ⟨w1.heap.size, i, none⟩ = some (.int .u32 (HL.getD i 0 : Nat)) := HBH5.out.cell i (by rw [HHV.out.1]; exact h8)
        have fh := HBH5.out.frozen i
        clear HBH4 HBK4 HB14 HBE4 hb5 cp3
        go_wp2_with fail
        go_roundw
        case rel =>
          refine ⟨_, i + 1, KL.set i ff, HL.set i ss, rfl, by omega, by go_num, by rw [List.length_set]; exact HKV.out.1, by rw [List.length_set]; exact HHV.out.1, ?_, ?_, HBH5.out.set _ _, HBK5.out.other (by omega) _ _, Below.setCell HB15.out (Nat.le_refl _) _, Below.setCell HBE5.out hs1 _⟩
          · intro j hj
            by_cases hji : i = j
            · subst hji; rw [← HFF.out]; simp [List.getD, HKV.out.1, hlt]
            · rw [getD_set_other _ _ _ _ hji]; exact HKV.out.2 j (by omega)
          · intro j hj hj8
            by_cases hji : i = j
            · subst hji; rw [← HSS.out]; simp [List.getD, HHV.out.1, h8]
            · rw [getD_set_other _ _ _ _ hji]; exact HHV.out.2 j (by omega) hj8
        case measure => simp [intOf]; omega
      · have i8 : ¬ (i : Int) < 8 := by omega
        go_wp2_with fail
        go_roundw
        case rel =>
          refine ⟨_, i + 1, KL.set i ff, HL, rfl, by omega, by go_num, by rw [List.length_set]; exact HKV.out.1, HHV.out.1, ?_, (fun j h1 h2 => HHV.out.2 j (by omega) h2), HBH3.out.other (by omega) _ _, HBK3.out.set _ _, Below.setCell HB13.out (by show w1.heap.size ≤ w1.heap.size + 1; omega) _, Below.setCell HBE3.out (by show w.heap.size ≤ w1.heap.size + 1; omega) _⟩
          intro j hj
          by_cases hji : i = j
          · subst hji; rw [← HFF.out]; simp [List.getD, HKV.out.1, hlt]
          · rw [getD_set_other _ _ _ _ hji]; exact HKV.out.2 j (by omega)
        case measure => simp [intOf]; omega
    · obtain rfl : i = 64 := by omega
      have hKe : KL = factorsN := list_eq (by rw [HKV.out.1, factors_length]) (fun j hj => HKV.out.2 j (by rw [HKV.out.1] at hj; exact hj))
      have hHe : HL = startN := list_eq (by rw [HHV.out.1, start_length]) (fun j hj => HHV.out.2 j (by rw [HHV.out.1] at hj; omega) (by rw [HHV.out.1] at hj; exact hj))
      subst hKe hHe
      clear HKV HHV
      have hsz := HBE.out.size
      have HO : Hid (OwnL 5 .u8 (wr.alloc (.cells #[] 5)) wr.heap.size (.slice (some ⟨wr.heap.size, 0, none⟩) 0 0) []) := OwnL.empty _ _ wr _ (Nat.le_refl _)
      have HR2 : Hid (RowL .u8 (wr.alloc (.cells #[] 5)) a len xs) := HR.out.below (Below.alloc HBE.out hsz _)
      have hsza : wr.heap.size ≤ (wr.alloc (.cells #[] 5)).heap.size := by simp
      go_wp2_with (first
        | (at_builtin; (refine append_nums numT8 _ rfl (.tmp 38) (.tmp 39) rfl wr.heap.size (.slice (some ⟨wr.heap.size, 0, none⟩) 0 0) [] xs rfl HO.out a len cap rfl HR2.out HN.out (by simp; omega) (by simp; unfold maxLen; omega) hsza ?_; intro v3 w3 hown3 hb3))
        | (at_builtin; (refine append_num numT8 w3 rfl (.tmp 41) (.tmp 42) rfl wr.heap.size v3 ([] ++ xs) rfl hown3 128 (.int .u8 128) rfl w3.heap.size rfl rfl (by simp; omega) (by simp; unfold maxLen; omega) (Nat.le_trans hsza hb3.size) ?_; intro v4 w4 hown4 hb4)))
      rw [List.nil_append] at hown4
      have HO4 : Hid (OwnL 5 .u8 w4 wr.heap.size v4 (xs ++ [128])) := hown4
      have HB4 : Hid (Below wr.heap.size wr w4) := ((below_new wr _).trans hb3).trans hb4
      clear hown3 hown4 hb3 hb4 HO HR2 hsza
      go_loopw [7] (fun v wq => ∃ (wz : World) (k : Nat), wz = wq ∧ k ≤ zcN len ∧ OwnL 5 .u8 wz wr.heap.size v (xs ++ [128] ++ List.replicate k 0) ∧ Below wr.heap.size wr wz) (fun v _ => zcN len - (lenOf v - (len + 1)))
      case atStart => exact ⟨w4, 0, rfl, Nat.zero_le _, by rw [List.replicate_zero, List.append_nil]; exact HO4.out, HB4.out⟩
      case round =>
        clear HO4 HB4
        obtain ⟨wa, k, hwa, hk, hown, hba⟩ := hrel
        subst hwa
        obtain ⟨ax, cx, hv, hrow, hcx, hpos⟩ := hown.row
        have HOWN : Hid (OwnL 5 .u8 wa wr.heap.size u7 (xs ++ [128] ++ List.replicate k 0)) := hown
        have HBA : Hid (Below wr.heap.size wr wa) := hba
        have hLn : (xs ++ [128] ++ List.replicate k 0).length = len + 1 + k := by
          rw [List.length_append, List.length_append, List.length_replicate, hxl]
          rfl
        rw [hLn] at hv
        subst hv
        have hz64 : zcN len < 64 := by unfold zcN; omega
        clear hrow hcx hpos hown hba
        by_cases hlt : k < zcN len
        · obtain ⟨L, hL⟩ : ∃ L, L = len + 1 + k := ⟨_, rfl⟩
          have ht : (((L : Int) % 64) != 56) = true := by
            have : L % 64 ≠ 56 := by rw [hL]; unfold zcN at hlt; omega
            simp
            omega
          rw [← hL] at HOWN ⊢
          have HL : Hid (L = len + 1 + k) := hL
          have hLb : L ≤ 140737488351400 := by omega
          have hsa := HBA.out.size
          rw [← hL] at hLn
          clear hL
          go_wp2_with (at_builtin; (refine append_num numT8 wa rfl (.tmp 48) (.tmp 49) rfl wr.heap.size (.slice ax L cx) (xs ++ [128] ++ List.replicate k 0) rfl HOWN.out 0 (.int .u8 0) rfl wa.heap.size rfl rfl (by omega) (by unfold maxLen; omega) hsa ?_; intro v5 w5 hown5 hb5))
          obtain ⟨a5, c5, hv5, -, -, -⟩ := hown5.row
          rw [List.length_append, hLn] at hv5
          subst hv5
          go_roundw
          case rel =>
            refine ⟨w5, k + 1, rfl, by omega, ?_, HBA.out.trans hb5⟩
            rw [List.replicate_succ', ← List.append_assoc]
            exact hown5
          case measure =>
            have := HL.out
            simp [lenOf]
            omega
        · have hkz : k = zcN len := by omega
          subst hkz
          obtain ⟨L, hL⟩ : ∃ L, L = len + 1 + zcN len := ⟨_, rfl⟩
          have ht : (((L : Int) % 64) != 56) = false := by
            have : L % 64 = 56 := by rw [hL]; unfold zcN; omega
            simp
            omega
          rw [← hL] at HOWN ⊢
          have HL : Hid (L = len + 1 + zcN len) := hL
          have hLb : L ≤ 140737488351400 := by omega
          clear hL hLn hz64
          obtain ⟨S, hS⟩ : ∃ S, S = 8 * len := ⟨_, rfl⟩
          have hSi : (len : Int) * 8 = (S : Int) := by omega
          have HS : Hid (S = 8 * len) := hS
          have hSb : S < 1125899906842624 := by omega
          clear hS
          go_wp2_with fail
          go_loopw [7, 9] (fun v ix wq => ∃ (wz : World) (m : Nat), wz = wq ∧ m ≤ 8 ∧ ix = .int .i64 (7 - (m : Int)) ∧ OwnL 5 .u8 wz wr.heap.size v (xs ++ [128] ++ List.replicate (zcN len) 0 ++ szN S m) ∧ Below wr.heap.size wr wz) (fun _ ix _ => (intOf ix + 1).toNat)
          case atStart => exact ⟨wa, 0, rfl, by omega, rfl, by rw [szN, List.append_nil]; exact HOWN.out, HBA.out⟩
          case round =>
            clear HOWN HBA
            obtain ⟨wb, m, hwb, hm, rfl, hown, hbb⟩ := hrel
            subst hwb
            obtain ⟨ax, cx, hv, hrow, hcx, hpos⟩ := hown.row
            have HOWN : Hid (OwnL 5 .u8 wb wr.heap.size u7 (xs ++ [128] ++ List.replicate (zcN len) 0 ++ szN S m)) := hown
            have HBB : Hid (Below wr.heap.size wr wb) := hbb
            have hLn : (xs ++ [128] ++ List.replicate (zcN len) 0 ++ szN S m).length = L + m := by
              rw [List.length_append, List.length_append, List.length_append, List.length_replicate, szN_length, hxl, HL.out]
              rfl
            rw [hLn] at hv
            subst hv
            have HPOS : Hid (RowL .u8 wb ax (L + m) (xs ++ [128] ++ List.replicate (zcN len) 0 ++ szN S m) ∧ L + m ≤ cx ∧ ∀ g o, ax = some ⟨g, o, none⟩ → wr.heap.size ≤ g ∧ o = 0) := ⟨by rw [← hLn]; exact hrow, by rw [← hLn]; exact hcx, hpos⟩
            clear hown hbb hrow hcx hpos
            by_cases hlt : m < 8
            · obtain ⟨b, hb, hbm⟩ : ∃ b : Nat, (7 : Int) - (m : Int) = (b : Int) ∧ b = 7 - m := ⟨7 - m, by omega, rfl⟩
              have HNX : Hid (szN S (m + 1) = szN S m ++ [S / 2 ^ (8 * b) % 256]) := by unfold Hid; rw [szN, hbm]
              rw [hb]
              have hb8 : b < 8 := by omega
              have HBM : Hid (b = 7 - m) := hbm
              clear hb hbm
              have hsb := HBB.out.size
              obtain ⟨e8, he8⟩ : ∃ e8 : Nat, e8 = 8 * b := ⟨_, rfl⟩
              have he8i : (8 : Int) * (b : Int) = (e8 : Int) := by omega
              have he8b : e8 < 64 := by omega
              rw [← he8] at HNX
              clear he8
              obtain ⟨D, hD⟩ : ∃ D, S / 2 ^ e8 % 256 = D := ⟨_, rfl⟩
              rw [hD] at HNX
              have hDi : (S : Int) / 2 ^ e8 % 256 = (D : Int) := by
                rw [← hD]
                simp
              clear hD
              go_wp2_with (at_builtin; (refine append_num numT8 wb rfl (.tmp 59) (.tmp 66) rfl wr.heap.size (.slice ax (L + m) cx) (xs ++ [128] ++ List.replicate (zcN len) 0 ++ szN S m) rfl HOWN.out D (.int .u8 (D : Nat)) rfl wb.heap.size rfl rfl (by omega) (by unfold maxLen; omega) hsb ?_; intro v5 w5 hown5 hb5))
              go_roundw
              case rel =>
                refine ⟨w5, m + 1, rfl, by omega, by have := HBM.out; go_num, ?_, HBB.out.trans hb5⟩
                rw [HNX.out, ← List.append_assoc]
                exact hown5
              case measure => simp [intOf]
            · obtain rfl : m = 8 := by omega
              have hlist : xs ++ [128] ++ List.replicate (zcN len) 0 ++ szN S 8 = xs ++ padN xs.length := by
                rw [hxl, HS.out]
                unfold padN
                simp only [List.append_assoc]
              obtain ⟨T, hT⟩ : ∃ T, T = L + 8 := ⟨_, rfl⟩
              have hTl : T = xs.length + (padN xs.length).length := by
                have := congrArg List.length hlist
                rw [hLn, List.length_append] at this
                omega
              have HTL : Hid (T = xs.length + (padN xs.length).length) := hTl
              have hT64 : T % 64 = 0 := by rw [hTl]; exact pad_whole xs.length
              rw [hlist] at HOWN HPOS
              rw [← hT] at HPOS HOWN ⊢
              obtain ⟨q, hq⟩ : ∃ q, T = 64 * q := ⟨T / 64, by omega⟩
              have HQ : Hid (q = (xs.length + (padN xs.length).length) / 64) := by unfold Hid; rw [← hTl]; omega
              obtain ⟨ga, oa, hae, hga, hcs⟩ := RowL.at HPOS.out.1 0 (by omega)
              subst hae
              obtain ⟨hgb, rfl⟩ := HPOS.out.2.2 ga oa rfl
              have hcx := HPOS.out.2.1
              have hlb : Hid (∀ j, (xs ++ padN xs.length).getD j 0 < 256) := padded_lt xs HX.out
              have HLC : Hid (∀ i, i < T → wb.cell? ⟨ga, i, none⟩ = some (.int .u8 ((xs ++ padN xs.length).getD i 0 : Nat))) := fun i hi => by have := hcs i hi; rw [Nat.zero_add] at this; exact this
              have HLL : Hid ((xs ++ padN xs.length).length = T) := by unfold Hid; rw [List.length_append, hTl]
              have HHB : Hid (RowL .u32 wb (some ⟨w1.heap.size, 0, none⟩) 8 startN) := by
                have := (Blk.row (Blk.below HBH.out HBB.out))
                rw [start_length] at this
                exact this
              have HKB : Hid (RowL .u32 wb (some ⟨w1.heap.size + 1, 0, none⟩) 64 factorsN) := by
                have := (Blk.row (Blk.below HBK.out HBB.out))
                rw [factors_length] at this
                exact this
              have HRB : Hid (Blk wb w.heap.size 25 .u8 zeros32) := Blk.below (Blk.below HBR1.out HB1.out) HBB.out
              have HBEB : Hid (Below w.heap.size w wb) := HBE.out.trans (HBB.out.mono HBE.out.size)
              obtain ⟨l, hle⟩ : ∃ l, l = xs ++ padN xs.length := ⟨_, rfl⟩
              have HLE : Hid (xs ++ padN xs.length = l) := hle.symm
              rw [← hle] at hlb HLC HLL
              clear hle
              have hTb : T ≤ 140737488351500 := by omega
              have HQT : Hid (T = 64 * q) := hq
              clear hlist hLn hTl hcs hq hT64 HOWN HPOS HL HS hSi hT HBB HBE HBH HBK HB1 HBR1 HP1 HBE1 HN HR HX
              rw [show (7 : Int) - ((8 : Nat) : Int) = -1 from rfl]
              go_wp2_with fail
              go_loopw [4, 10] (fun hv ix wq => ∃ (wz : World) (n g cg : Nat), wz = wq ∧ n ≤ q ∧ ix = .int .i64 ((64 * n : Nat) : Int) ∧ hv = .slice (some ⟨g, 0, none⟩) 8 cg ∧ RowL .u32 wz (some ⟨g, 0, none⟩) 8 (blks factorsN startN l n) ∧ Below wb.heap.size wb wz) (fun _ ix _ => (64 * q) - (intOf ix).toNat)
              case atStart => exact ⟨wb, 0, w1.heap.size, 8, rfl, Nat.zero_le _, rfl, rfl, HHB.out, Below.refl _ _⟩
              case round =>
                clear HHB
                obtain ⟨wc, n, g, cg, hwc, hn, rfl, rfl, hrow, hbc⟩ := hrel
                subst hwc
                have HH : Hid (RowL .u32 wc (some ⟨g, 0, none⟩) 8 (blks factorsN startN l n)) := hrow
                have HBC : Hid (Below wb.heap.size wb wc) := hbc
                clear hrow hbc
                by_cases hlt : n < q
                · have HBR : Hid (RowL .u8 wc (some ⟨ga, 64 * n, none⟩) 64 ((l.drop (64 * n)).take 64)) := by
                    have hq := HQT.out
                    refine ⟨by rw [List.length_take, List.length_drop, HLL.out]; omega, .inr ⟨ga, 64 * n, rfl, Nat.lt_of_lt_of_le hga HBC.out.size, fun i hi => ?_⟩⟩
                    rw [HBC.out.cell (p := ⟨ga, 64 * n + i, none⟩) hga, HLC.out (64 * n + i) (by omega)]
                    simp [List.getD, hi]
                  have HNX : Hid (blks factorsN startN l (n + 1) = blockN factorsN (blks factorsN startN l n) ((l.drop (64 * n)).take 64)) := rfl
                  have HB8 : Hid (∀ j, ((l.drop (64 * n)).take 64).getD j 0 < 256) := by
                    intro j
                    by_cases hj : j < 64
                    · have := hlb.out (64 * n + j)
                      simpa [List.getD, hj] using this
                    · rw [List.getD_eq_getElem?_getD, List.getElem?_eq_none (by rw [List.length_take]; omega)]; decide
                  have HHL : Hid (∀ j, (blks factorsN startN l n).getD j 0 < 4294967296) := blks_lt _ _ _ start_lt n
                  have hcn : ¬ cx = 64 * n := by have := HQT.out; omega
                  obtain ⟨A, hA⟩ : ∃ A, A = 64 * n := ⟨_, rfl⟩
                  have HAA : Hid (A = 64 * n) := hA
                  rw [← hA] at hcn HBR HB8 HNX ⊢
                  have hA1 : A + 64 ≤ T := by have := HQT.out; omega
                  have hA2 : A + 64 ≤ cx := by omega
                  have hAi : (A : Int) + 64 ≤ (cx : Int) := by omega
                  have hAi2 : (A : Int) < (T : Int) := by omega
                  clear hA
                  go_wp2_with fail
                  refine (block_any (some ⟨g, 0, none⟩) (some ⟨w1.heap.size + 1, 0, none⟩) (some ⟨ga, A, none⟩) cg 64 (cx - A) _ _ _ wc HH.out (HKB.out.below HBC.out) HBR.out HHL.out factors_lt HB8.out).mono ?_
                  rintro e w5 ⟨g5, c5, rfl, -, hrow5, hb5⟩
                  rw [← HNX.out] at hrow5
                  have HR5 : Hid (RowL .u32 w5 (some ⟨g5, 0, none⟩) 8 (blks factorsN startN l (n + 1))) := hrow5
                  have HB5 : Hid (Below wb.heap.size wb w5) := HBC.out.trans (hb5.mono HBC.out.size)
                  clear hrow5 hb5 HH HBC HBR HNX HB8 HHL
                  go_wp2_with fail
                  go_roundw
                  case rel => exact ⟨w5, n + 1, g5, c5, rfl, by omega, by have := HAA.out; go_num, rfl, HR5.out, HB5.out⟩
                  case measure => have := HAA.out; simp [intOf]; omega
                · obtain rfl : n = q := by omega
                  have hq := HQT.out
                  have HRES : Hid (shaN xs = outN (blks factorsN startN l n) 32) := by
                    unfold Hid shaN
                    rw [← HQ.out, HLE.out]
                  generalize blks factorsN startN l n = HH8 at *
                  have hsc := HBC.out.size
                  have HST : Hid ((storeVar 25 ⟨wc.heap.size, 0, none⟩ (.agg (encL .u8 zeros32))).run Tryd.prog (wc.alloc (.cells (encL .u8 zeros32) 25)) = .ok () (wc.alloc (.cells (encL .u8 zeros32) 25))) := by
                    have := (Blk.new wc 25 .u8 zeros32).store digT rfl (m := zeros32) rfl
                    rw [World.setRow_alloc_new] at this
                    exact this
                  have h64n : ¬ ((64 * n : Nat) : Int) < (T : Int) := by omega
                  go_wp2_with (first
                    | (refine build_op rfl 25 _ rfl #[] (by simp) _ (digBuild _) ?_)
                    | (refine alloc_op rfl 25 rfl _ (digAlloc _) ?_)
                    | (refine store_op rfl 25 (.tmp 11) (.tmp 82) rfl ⟨wc.heap.size, 0, none⟩ rfl _ rfl HST.out ?_))
                  go_simp
                  have HBD : Hid (Blk (wc.alloc (.cells (encL .u8 zeros32) 25)) wc.heap.size 25 .u8 zeros32) := Blk.new wc _ _ _
                  have HBN : Hid (Below wc.heap.size wc (wc.alloc (.cells (encL .u8 zeros32) 25))) := below_new wc _
                  generalize wc.alloc (.cells (encL .u8 zeros32) 25) = wd at *
                  go_loopw [12] (fun ix wq => ∃ (wz : World) (i : Nat) (M : List Nat), wz = wq ∧ i ≤ 32 ∧ ix = .int .i64 i ∧ M.length = 32 ∧ M.take i = outN HH8 i ∧ Blk wz wc.heap.size 25 .u8 M ∧ Below wc.heap.size wc wz) (fun ix _ => 32 - (intOf ix).toNat)
                  case atStart => exact ⟨wd, 0, zeros32, rfl, by omega, rfl, rfl, rfl, HBD.out, HBN.out⟩
                  case round =>
                    clear HBD HBN
                    obtain ⟨we, i, M, hwe, hi, rfl, hMl, hMt, hbd, hbn⟩ := hrel
                    subst hwe
                    have HM : Hid (M.length = 32 ∧ M.take i = outN HH8 i) := ⟨hMl, hMt⟩
                    have HBD : Hid (Blk we wc.heap.size 25 .u8 M) := hbd
                    have HBN : Hid (Below wc.heap.size wc we) := hbn
                    clear hMl hMt hbd hbn
                    by_cases hlt : i < 32
                    · obtain ⟨bh, oh, hhe, hbh, hch⟩ := RowL.at HH.out 0 (by decide)
                      simp only [Option.some.injEq, Addr.mk.injEq, and_true] at hhe
                      obtain ⟨rfl, rfl⟩ := hhe
                      have c1 : we.cell? ⟨g, i / 4, none⟩ = some (.int .u32 (HH8.getD (i / 4) 0 : Nat)) := by
                        have := hch (i / 4) (by omega)
                        rw [Nat.zero_add] at this
                        exact (HBN.out.cell (p := ⟨g, i / 4, none⟩) hbh).trans this
                      have cd : we.cell? ⟨wc.heap.size, i, none⟩ = some (.int .u8 (M.getD i 0 : Nat)) := HBD.out.cell i (by rw [HM.out.1]; exact hlt)
                      have fd := HBD.out.frozen i
                      have HNX : Hid (outN HH8 (i + 1) = outN HH8 i ++ [HH8.getD (i / 4) 0 / 2 ^ (24 - 8 * (i % 4)) % 256]) := rfl
                      obtain ⟨e8, he8⟩ : ∃ e8 : Nat, e8 = 24 - 8 * (i % 4) := ⟨_, rfl⟩
                      have he8i : (24 : Int) - 8 * ((i : Int) % 4) = (e8 : Int) := by omega
                      have he8b : e8 < 32 := by omega
                      rw [← he8] at HNX
                      clear he8 hch
                      generalize HH8.getD (i / 4) 0 = hw at *
                      obtain ⟨D, hD⟩ : ∃ D, hw / 2 ^ e8 % 256 = D := ⟨_, rfl⟩
                      rw [hD] at HNX
                      have hDi : (hw : Int) / 2 ^ e8 % 256 = (D : Int) := by
                        rw [← hD]
                        simp
                      clear hD
                      have hi4 : (i : Int) / 4 < 8 := by omega
                      have hi32 : (i : Int) < 32 := by omega
                      go_wp2_with fail
                      go_roundw
                      case rel =>
                        refine ⟨_, i + 1, M.set i D, rfl, by omega, by go_num, by rw [List.length_set]; exact HM.out.1, ?_, HBD.out.set i D, Below.setCell HBN.out (Nat.le_refl _) _⟩
                        rw [take_set M i D (by rw [HM.out.1]; exact hlt), HM.out.2, HNX.out]
                      case measure => simp [intOf]; omega
                    · obtain rfl : i = 32 := by omega
                      have hMe : M = shaN xs := by
                        have := HM.out.2
                        rw [← HM.out.1, List.take_length, HM.out.1] at this
                        rw [HRES.out]
                        exact this
                      have HML : Hid (M.length = 32) := HM.out.1
                      have HLD : Hid ((loadVar 25 ⟨wc.heap.size, 0, none⟩).run Tryd.prog we = .ok (.agg (encL .u8 M)) we) := HBD.out.load digT HM.out.1
                      have HR6 : Hid (Blk we w.heap.size 25 .u8 zeros32) := Blk.below (Blk.below HRB.out HBC.out) HBN.out
                      have HST2 : Hid ((storeVar 25 ⟨w.heap.size, 0, none⟩ (.agg (encL .u8 M))).run Tryd.prog we = .ok () (we.setRow w.heap.size (encL .u8 M))) := HR6.out.store digT rfl HM.out.1
                      have HB6 : Hid (Below w.heap.size w we) := (HBEB.out.trans (HBC.out.mono HBEB.out.size)).trans (HBN.out.mono (Nat.le_trans HBEB.out.size HBC.out.size))
                      have HME : Hid (M = shaN xs) := hMe
                      clear hMe
                      go_wp2_with (first
                        | (refine load_op rfl 25 (.tmp 11) rfl ⟨wc.heap.size, 0, none⟩ rfl _ HLD.out ?_)
                        | (refine store_op rfl 25 (.tmp 2) (.tmp 101) rfl ⟨w.heap.size, 0, none⟩ rfl _ rfl HST2.out ?_))
                      refine bodyPost_ret (v := .agg (encL .u8 M)) ?_ rfl ⟨by rw [HME.out], below_setRow HB6.out (Nat.le_refl _) _⟩
                      rw [results_cell rfl]
                      exact (HR6.out.setRow M).load digT HML.out
end Go.Proofs.YtmaaakcfbekboaaDoor
