/-
  The Writer's texts, digests, and all so far.
-/
import Derived.Test.YtngojkleehgbaaaPackW
import Derived.Lib.ConvBytes
import Derived.Lib.SliceRun
namespace Go.Proofs.Ytngojkleehgbaaa
open Go.ChangeShapes Go.WideShapes Go.ChangeAt Go.RowKit
set_option linter.unusedVariables false
set_option linter.unusedSimpArgs false
/-- '[]byte(s)'. -/
theorem conv_str (w : World) (s : ByteArray) : ∃ cap w', Sem.run Try.prog (convert 9 41 (.string s)) w = .ok (.slice (some ⟨w.heap.size, 0, none⟩) s.size cap) w' ∧
    RowL .u8 w' (some ⟨w.heap.size, 0, none⟩) s.size (txt s) ∧ Below w.heap.size w w' ∧ s.size ≤ cap := by
  refine ⟨_, Lib.bytesWorld w 5 s, Lib.run_convert_string_bytes w 9 41 5 s Try.underlying9 Try.underlying41 Try.underlying5, ⟨txt_length s, .inr ⟨w.heap.size, 0, rfl, by rw [Lib.bytesWorld_size]; omega, fun i hi => ?_⟩⟩, ⟨rfl, rfl, rfl, by rw [Lib.bytesWorld_size]; omega, fun j hj => Lib.bytesWorld_at_old w _ s j hj⟩, ?_⟩
  · rw [Nat.zero_add, Lib.bytesWorld_cell w 5 s i hi]
    have hi' : i < s.data.size := hi
    simp [txt, List.getD, hi']
    rw [Array.getElem?_eq_getElem hi']; rfl
  · exact grownCap_ge w s.size 0 _
theorem wtext_K (w : World) (g : Nat) (s : ByteArray) (xs : List Nat) (hW : WAt w g xs) (hl : xs.length + s.size ≤ 140737488355000) :
    Calls Try.prog 15 #[.pointer (some ⟨g, 0, none⟩), .string s] w fun e w' => e = .returned (.pointer (some ⟨g, 0, none⟩)) ∧ WAt w' g (xs ++ textN s) ∧ Below g w w' ∧ Kept w w' := by
  have hlt := hW.lt
  go_enter Try.func15, Try.ntmps15
  go_wp2_with fail
  refine (wnum_K w g s.size xs hW (by omega) (by omega)).mono ?_
  rintro e w1 ⟨rfl, hW1, hb1, hk1⟩
  obtain ⟨cap, w2, hcv, hr, hb2, hc⟩ := conv_str w1 s
  have h10 := (pkN_len s.size).2
  go_wp2_with fail
  refine (add_K w2 g _ (txt s) (hW1.below hb2) (Byt.txt s) _ s.size cap hr (by simp) (by rw [List.length_append]; omega)).mono ?_
  rintro e w3 ⟨rfl, hW3, hb3, hk3⟩
  go_wp2_with fail
  go_ret
  refine ⟨rfl, ?_, (hb1.trans (hb2.mono (Nat.le_of_lt hW1.lt))).trans hb3, (hk1.trans (Kept.of hb2)).trans hk3⟩
  unfold textN
  rw [← List.append_assoc]
  exact hW3
theorem wtext_any (w : World) (g : Nat) (s : ByteArray) (xs : List Nat) (hW : WAt w g xs) (hl : xs.length + s.size ≤ 140737488355000) :
    Calls Try.prog 15 #[.pointer (some ⟨g, 0, none⟩), .string s] w fun e w' => e = .returned (.pointer (some ⟨g, 0, none⟩)) ∧ WAt w' g (xs ++ textN s) ∧ Below g w w' :=
  (wtext_K w g s xs hW hl).mono fun _ _ ⟨h1, h2, h3, _⟩ => ⟨h1, h2, h3⟩
/-- Bytes that lie in one block, if anywhere. -/
def In (r : Nat) (a : Option Addr) : Prop := ∀ ad, a = some ad → ad.block = r
/-- What Out answers. -/
def OutR (w : World) (xs : List Nat) (e : Ending) (w' : World) : Prop := ∃ a cap r, e = .returned (.slice a xs.length cap) ∧ RowL .u8 w' a xs.length xs ∧ (a = none → xs.length = 0 ∧ cap = 0) ∧ xs.length ≤ cap ∧ cap ≤ maxLen ∧ In r a ∧ r < w'.heap.size ∧ Below w.heap.size w w'
theorem OwnL.spot {e : TypeId} {k : IntKind} {w : World} {base n cap : Nat} {a : Option Addr} {xs : List Nat} (h : OwnL e k w base (.slice a n cap) xs) (g : Nat) (hg : g < w.heap.size) : ∃ r, In r a ∧ r < w.heap.size ∧ cap ≤ maxLen := by
  have h0 := h
  obtain ⟨-, ⟨he, h2⟩ | ⟨b, cap', cur, he, hb, hbk, hn, hmm, hs, ht⟩⟩ := h
  · injection he with h1 _ h3
    subst h1 h3
    exact ⟨g, fun ad h => (by cases h), hg, Nat.zero_le _⟩
  · injection he with h1 _ h3
    subst h1 h3
    exact ⟨b, fun ad h => (by cases h; rfl), (Array.getElem?_eq_some_iff.1 hbk).1, by omega⟩
theorem OwnL.none {e : TypeId} {k : IntKind} {w : World} {base n cap : Nat} {xs : List Nat} (h : OwnL e k w base (.slice .none n cap) xs) : xs.length = 0 ∧ cap = 0 := by
  obtain ⟨-, ⟨he, h2⟩ | ⟨g, cap', cur, he, -⟩⟩ := h
  · injection he with _ _ h3; exact ⟨h2, h3⟩
  · cases he
theorem clone_any (w : World) (v : Value) (base : Nat) (xs : List Nat) (hv : OwnL 5 .u8 w base v xs) (hl : xs.length ≤ 140737488355328) (g : Nat) (hg : g < w.heap.size) :
    Calls Try.prog 40 #[v] w (OutR w xs) := by
  obtain ⟨a, cap, rfl, hr, hcl, ha⟩ := hv.row
  have hn : a = none → xs.length = 0 ∧ cap = 0 := by
    rintro rfl
    exact hv.none
  have qn : ∀ (w : World) (a : Option Addr) (n c : Nat), (binOp .eql 41 (.slice a n c) (.slice none 0 0)).run Try.prog w = .ok (.bool a.isNone) w := fun w a n c => Lib.run_eql_slice_nil w _ _ a n c 0 0 Try.underlying41
  cases a with
  | none =>
    have qn := fun w n c => qn w none n c
    simp only [Option.isNone_none] at qn
    obtain ⟨h0, rfl⟩ := hn rfl
    obtain rfl : xs = [] := List.eq_nil_of_length_eq_zero h0
    clear hr hcl hv h0
    go_enter Try.func40, Try.ntmps40
    go_wp2_with fail
    go_ret
    exact ⟨none, 0, g, rfl, ⟨rfl, .inl rfl⟩, fun _ => ⟨rfl, rfl⟩, Nat.le_refl _, Nat.zero_le _, fun _ h => (by cases h), hg, Below.refl _ _⟩
  | some ad =>
    clear hv
    have qn := fun w n c => qn w (some ad) n c
    simp only [Option.isNone_some] at qn
    have hr' : RowL .u8 (w.alloc (.cells #[] 5)) (some ad) xs.length xs := hr.below (below_new w _)
    have hown := OwnL.empty 5 .u8 w w.heap.size (Nat.le_refl _)
    go_enter Try.func40, Try.ntmps40
    go_wp2_with (first
      | (at_builtin; refine append_nums numT8 _ rfl (.tmp 5) (.tmp 6) rfl w.heap.size _ [] xs rfl hown (some ad) xs.length cap rfl hr' (by simp) (by simp; omega) (by unfold maxLen; simp; omega) (by simp) ?_; intro v' w1 hown' hb'; obtain ⟨a1, c1, hv1, hr1, hc1, -⟩ := hown'.row; subst hv1; rw [List.nil_append] at hown' hr1 hc1))
    go_ret
    obtain ⟨r, hi, hlt, hcm⟩ := hown'.spot g (Nat.lt_of_lt_of_le hg (Nat.le_trans (below_new w (.cells #[] 5)).size hb'.size))
    exact ⟨a1, c1, r, rfl, hr1, by rintro rfl; exact hown'.none, hc1, hcm, hi, hlt, (below_new w _).trans hb'⟩
theorem wout_any (w : World) (g : Nat) (xs : List Nat) (hW : WAt w g xs) (hl : xs.length ≤ 140737488355328) :
    Calls Try.prog 20 #[.pointer (some ⟨g, 0, none⟩)] w (OutR w xs) := by
  have hlt := hW.lt
  obtain ⟨v, h1, h2, h3⟩ := hW
  have hc : w.cell? ⟨g, 0, none⟩ = some v := by rw [cell_of_row w g 0 _ _ _ h1]; rfl
  have HC := clone_any w v (g + 1) xs h2 hl g hlt
  obtain ⟨a, cap, rfl, -⟩ := h2.row
  clear h1 h2
  go_enter Try.func20, Try.ntmps20
  go_wp2_with fail
  refine HC.mono ?_
  rintro e w1 ⟨a1, c1, r, rfl, hr⟩
  go_wp2_with fail
  go_ret
  exact ⟨a1, c1, r, rfl, hr⟩
theorem wdigest_K (w : World) (g : Nat) (d : List Nat) (xs : List Nat) (hW : WAt w g xs) (hd : d.length = 32) (hb : Byt d) (hl : xs.length ≤ 140737488355000) :
    Calls Try.prog 17 #[.pointer (some ⟨g, 0, none⟩), .agg (encL .u8 d)] w fun e w' => e = .returned (.pointer (some ⟨g, 0, none⟩)) ∧ WAt w' g (xs ++ d) ∧ Below g w w' ∧ Kept w w' := by
  have hlt := hW.lt
  have hr := (Blk.new w 27 .u8 d).row
  rw [hd] at hr
  have hb0 : Below w.heap.size w (w.alloc (.cells (encL .u8 d) 27)) := below_new w _
  go_enter Try.func17, Try.ntmps17
  go_wp2_with fail
  refine (add_K _ g xs d (hW.below hb0) hb _ 32 32 hr (by simp) (by omega)).mono ?_
  rintro e w2 ⟨rfl, hW2, hb2, hk2⟩
  go_wp2_with fail
  go_ret
  exact ⟨rfl, hW2, (hb0.mono (by omega)).trans hb2, (Kept.of hb0).trans hk2⟩
theorem wdigest_any (w : World) (g : Nat) (d : List Nat) (xs : List Nat) (hW : WAt w g xs) (hd : d.length = 32) (hb : Byt d) (hl : xs.length ≤ 140737488355000) :
    Calls Try.prog 17 #[.pointer (some ⟨g, 0, none⟩), .agg (encL .u8 d)] w fun e w' => e = .returned (.pointer (some ⟨g, 0, none⟩)) ∧ WAt w' g (xs ++ d) ∧ Below g w w' :=
  (wdigest_K w g d xs hW hd hb hl).mono fun _ _ ⟨h1, h2, h3, _⟩ => ⟨h1, h2, h3⟩
end Go.Proofs.Ytngojkleehgbaaa
