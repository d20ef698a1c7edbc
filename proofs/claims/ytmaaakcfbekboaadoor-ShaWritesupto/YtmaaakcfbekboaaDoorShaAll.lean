/-
  Parts that come in as lists of lists of bytes, and the law's package's 'all': the parts as one.
-/
import Derived.Test.YtmaaakcfbekboaaDoorOwn
namespace Go.Proofs.YtmaaakcfbekboaaDoor
open Go.ChangeShapes Go.WideShapes Go.ChangeAt Go.RowKit
set_option linter.unusedVariables false
set_option linter.unusedSimpArgs false
/-- Parts in memory: 'len' slices of bytes. -/
def PartsL (w : World) (a : Option Addr) (len : Nat) (ps : List (List Nat)) : Prop :=
  ps.length = len ∧ (len = 0 ∨ ∃ b off, a = some ⟨b, off, none⟩ ∧ b < w.heap.size ∧ ∀ i, i < len → ∃ ai li ci, w.cell? ⟨b, off + i, none⟩ = some (.slice ai li ci) ∧ RowL .u8 w ai li (ps.getD i []) ∧ (ai = none → li = 0 ∧ ci = 0))
theorem PartsL.below {w w' : World} {a : Option Addr} {len : Nat} {ps : List (List Nat)} (h : PartsL w a len ps) (hb : Below w.heap.size w w') : PartsL w' a len ps := by
  obtain ⟨h1, h4⟩ := h
  refine ⟨h1, ?_⟩
  rcases h4 with h4 | ⟨b, off, ha, hlt, hc⟩
  · exact .inl h4
  · refine .inr ⟨b, off, ha, Nat.lt_of_lt_of_le hlt hb.size, fun i hi => ?_⟩
    obtain ⟨ai, li, ci, h5, h6, h7⟩ := hc i hi
    exact ⟨ai, li, ci, (hb.cell (p := ⟨b, off + i, none⟩) hlt).trans h5, h6.below hb, h7⟩
theorem flat_take (ps : List (List Nat)) (k : Nat) (h : k < ps.length) : (ps.take (k + 1)).flatten = (ps.take k).flatten ++ ps.getD k [] := by
  rw [List.take_succ_eq_append_getElem h, List.flatten_append]
  simp [List.getD, h]
theorem flat_le (ps : List (List Nat)) (k : Nat) : (ps.take k).flatten.length ≤ ps.flatten.length := by
  have : ps.flatten = (ps.take k).flatten ++ (ps.drop k).flatten := by rw [← List.flatten_append, List.take_append_drop]
  rw [this, List.length_append]
  omega
theorem numB : NumT 28 5 .u8 1 := ⟨by kernel_rfl, Tryd.underlying28⟩
theorem OwnL.form {e : TypeId} {k : IntKind} {w : World} {base : Nat} {v : Value} {xs : List Nat} (h : OwnL e k w base v xs) : ∃ a cap, v = .slice a xs.length cap ∧ RowL k w a xs.length xs ∧ (a = none → xs.length = 0 ∧ cap = 0) ∧ xs.length ≤ cap := by
  have h0 := h
  obtain ⟨h1, ⟨rfl, h2⟩ | ⟨g, cap, cur, rfl, hg, hbk, hn, hmm, hs, ht⟩⟩ := h
  · exact ⟨none, 0, by rw [h2], ⟨rfl, .inl h2⟩, fun _ => ⟨h2, rfl⟩, by omega⟩
  · refine ⟨some ⟨g, 0, none⟩, cap, rfl, ⟨rfl, .inr ⟨g, 0, rfl, (h0.lt g rfl).2, fun i hi => ?_⟩⟩, (fun h => by cases h), hn⟩
    have := World.ownsRow.cellAt h0 i (by omega)
    rw [Nat.zero_add, this]
    simp [encV, hi]
set_option maxHeartbeats 1000000 in
theorem all_any (a : Option Addr) (len cap : Nat) (ps : List (List Nat)) (w : World) (hr : PartsL w a len ps) (hm : len ≤ maxLen) (hl : ps.flatten.length ≤ 140737488355328) :
    Calls Tryd.prog 10 #[.slice a len cap] w fun e w' => ∃ a' c, e = .returned (.slice a' ps.flatten.length c) ∧ RowL .u8 w' a' ps.flatten.length ps.flatten ∧ (a' = none → ps.flatten.length = 0 ∧ c = 0) ∧ Below w.heap.size w w' := by
  have HP : Hid (PartsL w a len ps) := hr
  have hpl : ps.length = len := hr.1
  have HO : Hid (OwnL 5 .u8 (w.alloc (.cells #[] 5)) w.heap.size (.slice (some ⟨w.heap.size, 0, none⟩) 0 0) []) := OwnL.empty _ _ w _ (Nat.le_refl _)
  unfold maxLen at hm
  clear hr
  go_enter Tryd.func10, Tryd.ntmps10
  go_wp2
  go_loopw [3, 4] (fun v ix wr => ∃ (wz : World) (i : Nat), wz = wr ∧ i ≤ len ∧ ix = .int .i64 i ∧ OwnL 5 .u8 wz w.heap.size v (ps.take i).flatten ∧ Below w.heap.size w wz) (fun _ ix _ => len - (intOf ix).toNat)
  case atStart => exact ⟨_, 0, rfl, Nat.zero_le _, rfl, HO.out, below_new w _⟩
  case round =>
    obtain ⟨wr, i, hwr, hi, rfl, hown, hbe⟩ := hrel
    subst hwr
    obtain ⟨ag, cg, rfl, hrowg, hnilg, -⟩ := hown.form
    have HOWN : Hid (OwnL 5 .u8 wr w.heap.size (.slice ag (ps.take i).flatten.length cg) (ps.take i).flatten) := hown
    have HRG : Hid (RowL .u8 wr ag (ps.take i).flatten.length (ps.take i).flatten ∧ (ag = none → (ps.take i).flatten.length = 0 ∧ cg = 0)) := ⟨hrowg, hnilg⟩
    clear hrowg hnilg
    have HBE : Hid (Below w.heap.size w wr) := hbe
    clear hown hbe HO
    by_cases hlt : i < len
    · have HNX : Hid ((ps.take (i + 1)).flatten = (ps.take i).flatten ++ ps.getD i []) := flat_take ps i (by omega)
      have hle := flat_le ps (i + 1)
      rw [HNX.out, List.length_append] at hle
      obtain ⟨-, h0 | ⟨b, off, hae, hbl, hcs⟩⟩ := HP.out
      · omega
      subst hae
      obtain ⟨ai, li, ci, hc, hrow, hnil⟩ := hcs i hlt
      have hcr : wr.cell? ⟨b, off + i, none⟩ = some (.slice ai li ci) := (HBE.out.cell (p := ⟨b, off + i, none⟩) hbl).trans hc
      have HROW : Hid (RowL .u8 wr ai li (ps.getD i [])) := hrow.below HBE.out
      have HNIL : Hid (ai = none → li = 0 ∧ ci = 0) := hnil
      have hli : (ps.getD i []).length = li := hrow.1
      rw [hli] at hle
      have hii : (i : Int) < (len : Int) := by omega
      clear hcs hc hrow hnil hbl HRG
      have hsz := HBE.out.size
      generalize (ps.take i).flatten = F at *
      generalize ps.getD i [] = E at *
      obtain ⟨fl, hfl⟩ : ∃ fl, fl = F.length := ⟨_, rfl⟩
      rw [← hfl] at HOWN hle ⊢
      have HFL : Hid (fl = F.length) := hfl
      clear hfl
      go_wp2_with (at_builtin; (refine append_nums numB wr rfl (.tmp 12) (.tmp 16) rfl w.heap.size (.slice ag fl cg) F E rfl HOWN.out ai li ci rfl HROW.out HNIL.out (by have := HFL.out; omega) (by have := HFL.out; unfold maxLen; omega) hsz ?_; intro v2 w2 hown2 hb2))
      go_roundw
      case rel => exact ⟨w2, i + 1, rfl, by omega, by go_num, by rw [HNX.out]; exact hown2, HBE.out.trans hb2⟩
      case measure => simp [intOf]; omega
    · obtain rfl : len = i := by omega
      have hpt : ps.take len = ps := by rw [← hpl, List.take_length]
      rw [hpt] at HRG ⊢
      clear HOWN hpt
      go_wp2
      go_ret
      exact ⟨ag, cg, rfl, HRG.out.1, HRG.out.2, HBE.out⟩
end Go.Proofs.YtmaaakcfbekboaaDoor
