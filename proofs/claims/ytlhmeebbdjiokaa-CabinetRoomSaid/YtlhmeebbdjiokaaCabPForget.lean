/-
  The program's forget: of a file's bytes that do not last so many are left, and perhaps one more, turned.
-/
import Derived.Test.YtlhmeebbdjiokaaCabPSorted
import Derived.Test.YtlhmeebbdjiokaaCabPLow
import Derived.Test.YtlhmeebbdjiokaaCabLasts
namespace Go.Proofs.Ytlhmeebbdjiokaa
open Go.ChangeShapes Go.WideShapes Go.ChangeAt Go.RowKit Go.Maps Go.MapKept Go.ChangeMaps
set_option linter.unusedVariables false
set_option linter.unusedSimpArgs false
theorem RowL.upto {k : IntKind} {w : World} {a : Option Addr} {n : Nat} {xs : List Nat} (h : RowL k w a n xs) (m : Nat) (hm : m ≤ n) : RowL k w a m (xs.take m) := by
  have hl := h.1
  refine ⟨by rw [List.length_take]; omega, ?_⟩
  rcases h.2 with h0 | ⟨b, off, ha, hb, hc⟩
  · exact .inl (by omega)
  · refine .inr ⟨b, off, ha, hb, fun i hi => ?_⟩
    rw [hc i (by omega), List.getD_eq_getElem?_getD, List.getD_eq_getElem?_getD, List.getElem?_take, if_pos hi]
def cutZ (f : ByteArray × Nat) (z : Int) (t : UInt8) : ByteArray := cutC f [z] t
theorem cut_head (f : ByteArray × Nat) (keep : List Int) (t : UInt8) : cutC f keep t = cutZ f (keep.headD 0) t := by
  unfold cutZ cutC
  have : keepC keep (f.1.size - f.2) = keepC [keep.headD 0] (f.1.size - f.2) := by
    cases keep with
    | nil =>
      show 0 = partC 0 _
      unfold partC
      rw [if_neg (by omega)]
      split
      · omega
      · rfl
    | cons z _ => rfl
  rw [this]
def endZ (f : ByteArray × Nat) (z : Int) : Nat := f.2 + partC z (f.1.size - f.2)
theorem endZ_le (f : ByteArray × Nat) (z : Int) (h : f.2 ≤ f.1.size) : endZ f z ≤ f.1.size := by
  have := part_le z (f.1.size - f.2)
  unfold endZ
  omega
theorem cutZ_txt (f : ByteArray × Nat) (z : Int) (t : UInt8) : txt (cutZ f z t) = (txt f.1).take (endZ f z) ++ (if t ≠ 0 ∧ endZ f z < f.1.size then [(f.1.data.getD (endZ f z) 0 ^^^ t).toNat] else []) := cut_txt f [z] t
theorem cutZ_plain (f : ByteArray × Nat) (z : Int) (t : UInt8) (h : ¬ (t ≠ 0 ∧ endZ f z < f.1.size)) : txt (cutZ f z t) = (txt f.1).take (endZ f z) := by
  rw [cutZ_txt, if_neg h, List.append_nil]
theorem byte_txt (s : ByteArray) (i : Nat) : (s.data.getD i 0).toNat = (txt s).getD i 0 := by
  unfold txt
  rw [List.getD_eq_getElem?_getD, List.getElem?_map, Array.getElem?_toList, Array.getD_eq_getD_getElem?]
  cases s.data[i]? <;> rfl
theorem cutZ_turned (f : ByteArray × Nat) (z : Int) (t : UInt8) (h : t ≠ 0 ∧ endZ f z < f.1.size) : txt (cutZ f z t) = ((txt f.1).set (endZ f z) ((txt f.1).getD (endZ f z) 0 ^^^ t.toNat)).take (endZ f z + 1) := by
  rw [cutZ_txt, if_pos h, UInt8.toNat_xor, byte_txt]
  have hl := txt_length f.1
  have hlt : endZ f z < (txt f.1).length := by omega
  generalize (txt f.1).getD (endZ f z) 0 ^^^ t.toNat = y
  generalize txt f.1 = xs at *
  generalize endZ f z = E at *
  rw [List.take_succ_eq_append_getElem (by rw [List.length_set]; exact hlt), List.take_set_of_le (Nat.le_refl _), List.getElem_set_self]
theorem txt_size_of {s : ByteArray} {l : List Nat} (h : txt s = l) : s.size = l.length := by rw [← txt_length, h]
/-- The last steps: a new row, and how many last. -/
theorem forget_post {w w1 w2 : World} {b : Nat} {v v' : Value} {f : ByteArray × Nat} {F : ByteArray} {n : Nat} (hf : FileAt w b v f) (ha : Apart (fun k => k = b ∨ v.ownBlock = some k) w w1) (hb : w1.heap[b]? = w.heap[b]?) (ho : OwnL 5 .u8 w2 w1.heap.size v' (txt F)) (hbl : Below w1.heap.size w1 w2) :
    FileAt ((w2.setCell ⟨b, 0, none⟩ v').setCell ⟨b, 1, none⟩ (.int .i64 (n : Nat))) b v' (F, n) ∧ (∀ k, v'.ownBlock = some k → w.heap.size ≤ k) ∧ Apart (fun k => k = b ∨ v.ownBlock = some k) w ((w2.setCell ⟨b, 0, none⟩ v').setCell ⟨b, 1, none⟩ (.int .i64 (n : Nat))) := by
  have hlt : b < w.heap.size := (Array.getElem?_eq_some_iff.1 hf.1).1
  have hlt1 : b < w1.heap.size := Nat.lt_of_lt_of_le hlt ha.size
  have h2 : w2.heap[b]? = some (.cells #[v, .int .i64 (f.2 : Nat)] 74 (0, 0)) := (hbl.block b hlt1).trans (hb.trans hf.1)
  have hnew : ∀ k, v'.ownBlock = some k → w1.heap.size ≤ k := fun k e => (World.ownsRow.lt ho k e).1
  refine ⟨⟨?_, ?_⟩, fun k e => Nat.le_trans ha.size (hnew k e), ?_⟩
  · have h3 := heap_set w2 b 0 v' _ _ h2
    rw [heap_set _ b 1 _ _ _ h3]
    rfl
  · refine owns_low (owns_keep ho (fun k e => ?_))
    have hkb : k ≠ b := fun e' => by have := hnew k e; omega
    exact (Below.heap_setCell _ ⟨b, 1, none⟩ _ k hkb).trans (Below.heap_setCell w2 ⟨b, 0, none⟩ _ k hkb)
  · have h4 := (ha.same (apart_of hbl _)).set (g := b) (.inl rfl) 0 v'
    exact h4.set (g := b) (.inl rfl) 1 _
set_option maxRecDepth 100000 in
set_option maxHeartbeats 8000000 in
theorem pforget_any (w : World) (b : Nat) (v : Value) (f : ByteArray × Nat) (h : FileAt w b v f) (hf : f.2 ≤ f.1.size) (hs : f.1.size ≤ 1048576) (z : Int) (t : UInt8) (tn : Nat) (ht : tn = t.toNat) :
    Calls Try.prog 34 #[.pointer (some ⟨b, 0, none⟩), .int .i64 z, .int .u8 (tn : Nat)] w fun e w' => e = .returned (.tuple #[]) ∧ ∃ v', FileAt w' b v' (cutZ f z t, (cutZ f z t).size) ∧ (∀ k, v'.ownBlock = some k → w.heap.size ≤ k) ∧ Apart (fun k => k = b ∨ v.ownBlock = some k) w w' := by
  have HFILE : Hid (FileAt w b v f) := h
  obtain ⟨a, cap, hv, c0, c1, hfr, hrow, hcap, hnil, hbl⟩ := h.len
  have hle := endZ_le f z hf
  have HE : Hid (endZ f z = f.2 + partC z (f.1.size - f.2)) := rfl
  have HMO : Hid (∀ (W : World) (q : Int), q = ((f.1.size - f.2 : Nat) : Int) → Calls Try.prog 31 #[.int .i64 z, .int .i64 q] W fun e w' => e = .returned (.int .i64 (partC z (f.1.size - f.2) : Nat)) ∧ w' = W) := fun W q hq => by rw [hq]; exact pmost_any W z _
  have HROW : Hid (RowL .u8 w a f.1.size (txt f.1)) := hrow
  have HNIL : Hid (a = none → f.1.size = 0) := hnil
  have HAD : Hid (∀ ad, a = some ad → ∃ b off, ad = ⟨b, off, none⟩) := by
    intro ad e
    obtain ⟨a', cap', hv', hr', -, hx⟩ := h.2.row
    rw [hv] at hv'
    injection hv' with e1 e2 e3
    rcases h.2.2 with ⟨e4, -⟩ | ⟨g, cap2, cur, e4, -⟩
    · rw [hv] at e4; injection e4 with e4; rw [e] at e4; cases e4
    · rw [hv] at e4; injection e4 with e4; rw [e] at e4; injection e4 with e4; exact ⟨g, 0, e4⟩
  have f0 := hfr 0
  have f1 := hfr 1
  have HPL : Hid (∀ E, E = endZ f z → ¬ (t ≠ 0 ∧ E < f.1.size) → txt (cutZ f z t) = (txt f.1).take E) := fun E e hn => by subst e; exact cutZ_plain f z t hn
  have HTU : Hid (∀ E, E = endZ f z → (t ≠ 0 ∧ E < f.1.size) → txt (cutZ f z t) = ((txt f.1).set E ((txt f.1).getD E 0 ^^^ t.toNat)).take (E + 1)) := fun E e hn => by subst e; exact cutZ_turned f z t hn
  have HTL : Hid ((txt f.1).length = f.1.size) := txt_length f.1
  have HOWN : Hid (OwnL 5 .u8 w 0 v (txt f.1)) := h.2
  clear h hfr hrow hnil
  obtain ⟨F, hF⟩ : ∃ F, F = cutZ f z t := ⟨_, rfl⟩
  rw [← hF] at HPL HTU ⊢
  obtain ⟨E, hE⟩ : ∃ E, E = endZ f z := ⟨_, rfl⟩
  rw [← hE] at HE hle
  have HEE : Hid (E = endZ f z) := hE
  clear hE hF
  obtain ⟨p, hp⟩ : ∃ p, p = partC z (f.1.size - f.2) := ⟨_, rfl⟩
  rw [← hp] at HE HMO
  clear hp
  obtain ⟨sz, hsz⟩ : ∃ sz, sz = f.1.size := ⟨_, rfl⟩
  obtain ⟨la, hla⟩ : ∃ la, la = f.2 := ⟨_, rfl⟩
  rw [← hsz, ← hla] at HMO
  rw [← hsz] at hv c0 HROW HNIL HPL HTU HTL hf hs hcap hle
  rw [← hla] at c1 HE hf
  clear hsz hla
  have hwr : IntKind.i64.wrap ((sz : Int) - (la : Int)) = (sz : Int) - (la : Int) := by rw [IntKind.wrap_i64]; omega
  have hwr2 : IntKind.i64.wrap ((la : Int) + (p : Int)) = (E : Int) := by have := HE.out; rw [IntKind.wrap_i64]; omega
  have hE2 : E ≤ cap := by omega
  have HEB : Hid (E ≤ 1048576) := by unfold Hid; omega
  have HT : Hid (tn = t.toNat) := ht
  have HT0 : Hid (t = 0 ↔ tn = 0) := by
    unfold Hid
    rw [ht]
    exact ⟨fun e => by rw [e]; rfl, fun e => UInt8.toNat_inj.1 e⟩
  have htn : tn < 256 := by rw [ht]; exact t.toNat_lt
  clear ht
  by_cases h0 : tn = 0
  · have HPT : Hid (txt F = (txt f.1).take E) := HPL.out E HEE.out (fun h => h.1 (HT0.out.2 h0))
    have k0 : ((tn : Int) != 0) = false := by rw [bne_eq_false_iff_eq]; omega
    clear HPL HTU h0
    clear hv
    go_enter Try.func34, Try.ntmps34
    go_wp2_with fail
    go_quiet ((go_at_call 31; exact Calls.quiet_of_same (HMO.out _ _ (by omega))))
    replace c0 : (w.drewN nq).cell? ⟨b, 0, none⟩ = some (.slice a sz cap) := c0
    replace c1 : (w.drewN nq).cell? ⟨b, 1, none⟩ = some (.int .i64 (la : Nat)) := c1
    replace f0 : (w.drewN nq).frozen? ⟨b, 0, none⟩ = false := f0
    replace f1 : (w.drewN nq).frozen? ⟨b, 1, none⟩ = false := f1
    have HF2 : Hid ((w.drewN nq).heap[b]? = w.heap[b]?) := rfl
    have HR2 : Hid (RowL .u8 (w.drewN nq) a sz (txt f.1)) := HROW.out
    have HA2 : Hid (Apart (fun k => k = b ∨ v.ownBlock = some k) w (w.drewN nq)) := apart_of (below_drew (Below.refl _ _) nq) _
    clear hwr hwr2 HMO HROW
    generalize w.drewN nq = wq at *
    go_wp2_with fail
    refine Calls.mono (pbytes_any wq a E cap _ (HR2.out.upto E hle) (fun e => by have := HNIL.out e; omega) HAD.out (by have := HEB.out; omega)) ?_
    rintro _ w2 ⟨v2, rfl, ho2, hb2⟩
    have HBQ : Hid (b < wq.heap.size) := (Array.getElem?_eq_some_iff.1 (HF2.out.trans HFILE.out.1)).1
    have HO2 : Hid (OwnL 5 .u8 w2 wq.heap.size v2 (txt F)) := by unfold Hid; rw [HPT.out]; exact ho2
    have HB2 : Hid (Below wq.heap.size wq w2) := hb2
    have hk2 : w2.heap[b]? = some (.cells #[v, .int .i64 (f.2 : Nat)] 74 (0, 0)) := (hb2.block b HBQ.out).trans (HF2.out.trans HFILE.out.1)
    obtain ⟨a2, cap2, hv2, -⟩ := ho2.row
    generalize ((txt f.1).take E).length = n2 at hv2
    subst hv2
    have hk3 := heap_set w2 b 0 (.slice a2 n2 cap2) _ _ hk2
    have d0 : w2.cell? ⟨b, 0, none⟩ = some v := cell_of_row w2 b 0 _ _ _ hk2
    have g0 : w2.frozen? ⟨b, 0, none⟩ = false := frozen_of_row w2 b 0 _ _ hk2
    have d1 : (w2.setCell ⟨b, 0, none⟩ (.slice a2 n2 cap2)).cell? ⟨b, 1, none⟩ = some (.int .i64 (f.2 : Nat)) := cell_of_row _ b 1 _ _ _ hk3
    have g1 : (w2.setCell ⟨b, 0, none⟩ (.slice a2 n2 cap2)).frozen? ⟨b, 1, none⟩ = false := frozen_of_row _ b 1 _ _ hk3
    have HSZ : Hid (F.size = E) := by
      unfold Hid
      rw [txt_size_of HPT.out, List.length_take, HTL.out]
      omega
    have HP : Hid (FileAt ((w2.setCell ⟨b, 0, none⟩ (.slice a2 n2 cap2)).setCell ⟨b, 1, none⟩ (.int .i64 (E : Nat))) b (.slice a2 n2 cap2) (F, F.size) ∧ (∀ k, (Value.slice a2 n2 cap2).ownBlock = some k → w.heap.size ≤ k) ∧ Apart (fun k => k = b ∨ v.ownBlock = some k) w ((w2.setCell ⟨b, 0, none⟩ (.slice a2 n2 cap2)).setCell ⟨b, 1, none⟩ (.int .i64 (E : Nat)))) := by
      unfold Hid
      rw [HSZ.out]
      exact forget_post HFILE.out HA2.out HF2.out HO2.out HB2.out
    clear hk2 hk3 ho2 hb2 c0 c1 f0 f1
    go_wp2_with fail
    go_end0
    exact ⟨rfl, _, HP.out⟩
  · by_cases h1 : E < sz
    · have HPT : Hid (txt F = ((txt f.1).set E ((txt f.1).getD E 0 ^^^ tn)).take (E + 1)) := by
        rw [HT.out]
        exact HTU.out E HEE.out ⟨fun e => h0 (HT0.out.1 e), h1⟩
      have k0 : ((tn : Int) != 0) = true := by rw [bne_iff_ne]; omega
      have k1 : (E : Int) < (sz : Int) := by omega
      have hE3 : E + 1 ≤ cap := by omega
      obtain ⟨d, cap', hvd, -, hdl, hcd, hfd, hset⟩ := HOWN.out.at E (by rw [HTL.out]; exact h1)
      rw [HTL.out] at hvd
      have hav : a = some ⟨d, 0, none⟩ := by rw [hv] at hvd; injection hvd with e
      subst hav
      have hdb : d ≠ b := by
        intro e
        obtain ⟨cur, hk⟩ := owns_type HOWN.out (b := d) (by rw [hv]; rfl)
        rw [e, HFILE.out.1] at hk
        injection hk with hk
        injection hk with _ hk
        exact absurd hk (by decide)
      have hcE := hcd E (by rw [HTL.out]; exact h1)
      have HSET : Hid (∀ y : Nat, OwnL 5 .u8 (w.setCell ⟨d, E, none⟩ (.int .u8 y)) 0 v ((txt f.1).set E y)) := hset
      have HV : Hid (v = .slice (some ⟨d, 0, none⟩) sz cap) := hv
      have HE1 : Hid (E + 1 ≤ sz) := h1
      have HVD : Hid (v.ownBlock = some d) := by unfold Hid; rw [hv]; rfl
      obtain ⟨x, hx⟩ : ∃ x, x = (txt f.1).getD E 0 := ⟨_, rfl⟩
      rw [← hx] at hcE HPT
      have hx8 : x < 256 := by
        rw [hx, List.getD_eq_getElem?_getD, List.getElem?_eq_getElem (by rw [HTL.out]; exact h1)]
        exact txt_lt _ _ (List.getElem_mem _)
      clear HPL HTU h0 h1 hvd hcd hset hx
      clear hv
      go_enter Try.func34, Try.ntmps34
      go_wp2_with fail
      go_quiet ((go_at_call 31; exact Calls.quiet_of_same (HMO.out _ _ (by omega))))
      replace c0 : (w.drewN nq).cell? ⟨b, 0, none⟩ = some (.slice (some ⟨d, 0, none⟩) sz cap) := c0
      replace c1 : (w.drewN nq).cell? ⟨b, 1, none⟩ = some (.int .i64 (la : Nat)) := c1
      replace f0 : (w.drewN nq).frozen? ⟨b, 0, none⟩ = false := f0
      replace f1 : (w.drewN nq).frozen? ⟨b, 1, none⟩ = false := f1
      have HF2 : Hid ((w.drewN nq).heap[b]? = w.heap[b]?) := rfl
      have HR2 : Hid (RowL .u8 (w.drewN nq) (some ⟨d, 0, none⟩) sz (txt f.1)) := HROW.out
      have HA2 : Hid (Apart (fun k => k = b ∨ v.ownBlock = some k) w (w.drewN nq)) := apart_of (below_drew (Below.refl _ _) nq) _
      clear hwr hwr2 HMO HROW
      have hxr : bits .xor .u8 (x : Int) (tn : Int) = ((x ^^^ tn : Nat) : Int) := by rw [u8_xor_nat x tn hx8 htn]
      replace hcE : (w.drewN nq).cell? ⟨d, E, none⟩ = some (.int .u8 (x : Nat)) := hcE
      replace hfd : (w.drewN nq).frozen? ⟨d, E, none⟩ = false := hfd
      have HS2 : Hid (∀ y : Nat, OwnL 5 .u8 ((w.drewN nq).setCell ⟨d, E, none⟩ (.int .u8 y)) 0 v ((txt f.1).set E y)) := HSET.out
      have HBL : Hid (b < (w.drewN nq).heap.size) := hbl
      clear HSET
      generalize w.drewN nq = wq at *
      have HA3 : Hid (Apart (fun k => k = b ∨ v.ownBlock = some k) w (wq.setCell ⟨d, E, none⟩ (.int .u8 (x ^^^ tn : Nat)))) := HA2.out.set (.inr HVD.out) _ _
      have HF3 : Hid ((wq.setCell ⟨d, E, none⟩ (.int .u8 (x ^^^ tn : Nat))).heap[b]? = w.heap[b]?) := (Below.heap_setCell wq ⟨d, E, none⟩ _ b (fun e => hdb e.symm)).trans HF2.out
      have HR3 : Hid (RowL .u8 (wq.setCell ⟨d, E, none⟩ (.int .u8 (x ^^^ tn : Nat))) (some ⟨d, 0, none⟩) sz ((txt f.1).set E (x ^^^ tn))) := by
        obtain ⟨a9, cap9, hv9, hr9, -, -⟩ := (HS2.out (x ^^^ tn)).row
        rw [List.length_set, HTL.out] at hv9 hr9
        rw [HV.out] at hv9
        injection hv9 with e1
        rw [← e1] at hr9
        exact hr9
      have e0 : (wq.setCell ⟨d, E, none⟩ (.int .u8 (x ^^^ tn : Nat))).cell? ⟨b, 0, none⟩ = some (.slice (some ⟨d, 0, none⟩) sz cap) := (World.cell?_of_block (w := wq) (w' := wq.setCell ⟨d, E, none⟩ (.int .u8 (x ^^^ tn : Nat))) (a := ⟨b, 0, none⟩) (Below.heap_setCell wq ⟨d, E, none⟩ _ b (fun e => hdb e.symm))).trans c0
      go_wp2_with fail
      refine Calls.mono (pbytes_any _ _ (E + 1) cap _ (HR3.out.upto (E + 1) HE1.out) (fun e => by cases e) HAD.out (by have := HEB.out; omega)) ?_
      rintro _ w2 ⟨v2, rfl, ho2, hb2⟩
      generalize wq.setCell ⟨d, E, none⟩ (.int .u8 (x ^^^ tn : Nat)) = wp at *
      have HBQ : Hid (b < wp.heap.size) := (Array.getElem?_eq_some_iff.1 (HF3.out.trans HFILE.out.1)).1
      have HO2 : Hid (OwnL 5 .u8 w2 wp.heap.size v2 (txt F)) := by unfold Hid; rw [HPT.out]; exact ho2
      have HB2 : Hid (Below wp.heap.size wp w2) := hb2
      have hk2 : w2.heap[b]? = some (.cells #[v, .int .i64 (f.2 : Nat)] 74 (0, 0)) := (hb2.block b HBQ.out).trans (HF3.out.trans HFILE.out.1)
      obtain ⟨a2, cap2, hv2, -⟩ := ho2.row
      generalize (((txt f.1).set E (x ^^^ tn)).take (E + 1)).length = n2 at hv2
      subst hv2
      have hk3 := heap_set w2 b 0 (.slice a2 n2 cap2) _ _ hk2
      have d0 : w2.cell? ⟨b, 0, none⟩ = some v := cell_of_row w2 b 0 _ _ _ hk2
      have g0 : w2.frozen? ⟨b, 0, none⟩ = false := frozen_of_row w2 b 0 _ _ hk2
      have d1 : (w2.setCell ⟨b, 0, none⟩ (.slice a2 n2 cap2)).cell? ⟨b, 1, none⟩ = some (.int .i64 (f.2 : Nat)) := cell_of_row _ b 1 _ _ _ hk3
      have g1 : (w2.setCell ⟨b, 0, none⟩ (.slice a2 n2 cap2)).frozen? ⟨b, 1, none⟩ = false := frozen_of_row _ b 1 _ _ hk3
      have HSZ : Hid (F.size = E + 1) := by
        unfold Hid
        rw [txt_size_of HPT.out, List.length_take, List.length_set, HTL.out]
        have := HE1.out
        omega
      have HP : Hid (FileAt ((w2.setCell ⟨b, 0, none⟩ (.slice a2 n2 cap2)).setCell ⟨b, 1, none⟩ (.int .i64 (E + 1 : Nat))) b (.slice a2 n2 cap2) (F, F.size) ∧ (∀ k, (Value.slice a2 n2 cap2).ownBlock = some k → w.heap.size ≤ k) ∧ Apart (fun k => k = b ∨ v.ownBlock = some k) w ((w2.setCell ⟨b, 0, none⟩ (.slice a2 n2 cap2)).setCell ⟨b, 1, none⟩ (.int .i64 (E + 1 : Nat)))) := by
        unfold Hid
        rw [HSZ.out]
        exact forget_post HFILE.out HA3.out HF3.out HO2.out HB2.out
      clear hk2 hk3 ho2 hb2 c0 c1 f0 f1 e0
      go_wp2_with fail
      go_end0
      exact ⟨rfl, _, HP.out⟩
    · have HPT : Hid (txt F = (txt f.1).take E) := HPL.out E HEE.out (fun h => h1 h.2)
      have k0 : ((tn : Int) != 0) = true := by rw [bne_iff_ne]; omega
      have k1 : ¬ (E : Int) < (sz : Int) := by omega
      clear HPL HTU h0 h1
      clear hv
      go_enter Try.func34, Try.ntmps34
      go_wp2_with fail
      go_quiet ((go_at_call 31; exact Calls.quiet_of_same (HMO.out _ _ (by omega))))
      replace c0 : (w.drewN nq).cell? ⟨b, 0, none⟩ = some (.slice a sz cap) := c0
      replace c1 : (w.drewN nq).cell? ⟨b, 1, none⟩ = some (.int .i64 (la : Nat)) := c1
      replace f0 : (w.drewN nq).frozen? ⟨b, 0, none⟩ = false := f0
      replace f1 : (w.drewN nq).frozen? ⟨b, 1, none⟩ = false := f1
      have HF2 : Hid ((w.drewN nq).heap[b]? = w.heap[b]?) := rfl
      have HR2 : Hid (RowL .u8 (w.drewN nq) a sz (txt f.1)) := HROW.out
      have HA2 : Hid (Apart (fun k => k = b ∨ v.ownBlock = some k) w (w.drewN nq)) := apart_of (below_drew (Below.refl _ _) nq) _
      clear hwr hwr2 HMO HROW
      generalize w.drewN nq = wq at *
      go_wp2_with fail
      refine Calls.mono (pbytes_any wq a E cap _ (HR2.out.upto E hle) (fun e => by have := HNIL.out e; omega) HAD.out (by have := HEB.out; omega)) ?_
      rintro _ w2 ⟨v2, rfl, ho2, hb2⟩
      have HBQ : Hid (b < wq.heap.size) := (Array.getElem?_eq_some_iff.1 (HF2.out.trans HFILE.out.1)).1
      have HO2 : Hid (OwnL 5 .u8 w2 wq.heap.size v2 (txt F)) := by unfold Hid; rw [HPT.out]; exact ho2
      have HB2 : Hid (Below wq.heap.size wq w2) := hb2
      have hk2 : w2.heap[b]? = some (.cells #[v, .int .i64 (f.2 : Nat)] 74 (0, 0)) := (hb2.block b HBQ.out).trans (HF2.out.trans HFILE.out.1)
      obtain ⟨a2, cap2, hv2, -⟩ := ho2.row
      generalize ((txt f.1).take E).length = n2 at hv2
      subst hv2
      have hk3 := heap_set w2 b 0 (.slice a2 n2 cap2) _ _ hk2
      have d0 : w2.cell? ⟨b, 0, none⟩ = some v := cell_of_row w2 b 0 _ _ _ hk2
      have g0 : w2.frozen? ⟨b, 0, none⟩ = false := frozen_of_row w2 b 0 _ _ hk2
      have d1 : (w2.setCell ⟨b, 0, none⟩ (.slice a2 n2 cap2)).cell? ⟨b, 1, none⟩ = some (.int .i64 (f.2 : Nat)) := cell_of_row _ b 1 _ _ _ hk3
      have g1 : (w2.setCell ⟨b, 0, none⟩ (.slice a2 n2 cap2)).frozen? ⟨b, 1, none⟩ = false := frozen_of_row _ b 1 _ _ hk3
      have HSZ : Hid (F.size = E) := by
        unfold Hid
        rw [txt_size_of HPT.out, List.length_take, HTL.out]
        omega
      have HP : Hid (FileAt ((w2.setCell ⟨b, 0, none⟩ (.slice a2 n2 cap2)).setCell ⟨b, 1, none⟩ (.int .i64 (E : Nat))) b (.slice a2 n2 cap2) (F, F.size) ∧ (∀ k, (Value.slice a2 n2 cap2).ownBlock = some k → w.heap.size ≤ k) ∧ Apart (fun k => k = b ∨ v.ownBlock = some k) w ((w2.setCell ⟨b, 0, none⟩ (.slice a2 n2 cap2)).setCell ⟨b, 1, none⟩ (.int .i64 (E : Nat)))) := by
        unfold Hid
        rw [HSZ.out]
        exact forget_post HFILE.out HA2.out HF2.out HO2.out HB2.out
      clear hk2 hk3 ho2 hb2 c0 c1 f0 f1
      go_wp2_with fail
      go_end0
      exact ⟨rfl, _, HP.out⟩
end Go.Proofs.Ytlhmeebbdjiokaa
