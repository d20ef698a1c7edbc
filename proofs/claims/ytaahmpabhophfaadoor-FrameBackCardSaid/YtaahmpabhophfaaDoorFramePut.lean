/-
  The landed frame's Put and the document's, as one function of the bytes.
-/
import Derived.Test.YtaahmpabhophfaaDoorFrameEq
import Derived.Lib.ConvBytes
import Derived.Lib.SliceRun
namespace Go.Proofs.YtaahmpabhophfaaDoor
open Go.ChangeShapes Go.WideShapes Go.ChangeAt Go.RowKit
set_option linter.unusedVariables false
set_option linter.unusedSimpArgs false
/-- What comes in: bytes at a place, nil of no room. -/
def BytL (w : World) (a : Option Addr) (len cap : Nat) (xs : List Nat) : Prop := RowL .u8 w a len xs ∧ (a = none → len = 0 ∧ cap = 0) ∧ (∀ c ∈ xs, c < 256) ∧ len ≤ cap ∧ cap ≤ maxLen
theorem BytL.below {w w' : World} {a : Option Addr} {len cap : Nat} {xs : List Nat} (h : BytL w a len cap xs) (hb : Below w.heap.size w w') : BytL w' a len cap xs := ⟨h.1.below hb, h.2⟩
def putN (xs : List Nat) : List Nat × Nat := if 16384 < xs.length then ([], 17) else (frN crcN xs, 0)
theorem frN_byt (xs : List Nat) (h : ∀ c ∈ xs, c < 256) : ∀ c ∈ frN crcN xs, c < 256 := by
  intro c hc
  unfold frN at hc
  rcases List.mem_append.1 hc with hc | hc
  · exact be4_lt _ c hc
  · rcases List.mem_append.1 hc with hc | hc
    · exact be4_lt _ c hc
    · exact h c hc
theorem parts3 (w : World) (g1 g2 : Nat) (a : Option Addr) (len cap : Nat) (xs l1 l2 : List Nat) (h1 : Blk w g1 5 .u8 l1) (h2 : Blk w g2 5 .u8 l2) (h3 : RowL .u8 w a len xs) (hn : a = none → len = 0 ∧ cap = 0) (n1 : l1.length = 4) (n2 : l2.length = 4) :
    PartsC (w.alloc (.cells #[.slice (some ⟨g1, 0, none⟩) 4 4, .slice (some ⟨g2, 0, none⟩) 4 4, .slice a len cap] 22)) w.heap.size [l1, l2, xs] := by
  refine ⟨by simp, fun i hi => ?_⟩
  have hb := below_new w (.cells #[.slice (some ⟨g1, 0, none⟩) 4 4, .slice (some ⟨g2, 0, none⟩) 4 4, .slice a len cap] 22)
  match i, hi with
  | 0, _ => exact ⟨_, 4, 4, by simp [go_sem]; rfl, by have := (h1.below hb).row; rwa [n1] at this, fun h => by cases h⟩
  | 1, _ => exact ⟨_, 4, 4, by simp [go_sem]; rfl, by have := (h2.below hb).row; rwa [n2] at this, fun h => by cases h⟩
  | 2, _ => exact ⟨a, len, cap, by simp [go_sem], h3.below hb, hn⟩
theorem own_mono {e : TypeId} {k : IntKind} {w : World} {b b' : Nat} {v : Value} {xs : List Nat} (h : OwnL e k w b v xs) (hb : b' ≤ b) : OwnL e k w b' v xs := by
  obtain ⟨h1, h2⟩ := h
  refine ⟨h1, ?_⟩
  rcases h2 with h2 | ⟨g, cap, cur, hv, hg, hr⟩
  · exact .inl h2
  · exact .inr ⟨g, cap, cur, hv, Nat.le_trans hb hg, hr⟩
theorem put_any (a : Option Addr) (len cap : Nat) (xs : List Nat) (w : World) (hA : BytL w a len cap xs) (hT : HalfTab w) :
    Calls Tryd.prog 8 #[.slice a len cap] w fun e w' => ∃ v, e = .returned (.tuple #[v, .int .i64 ((putN xs).2 : Nat)]) ∧ OwnL 5 .u8 w' w.heap.size v (putN xs).1 ∧ Below w.heap.size w w' := by
  obtain ⟨hr, hn, hb, hcl, hcm⟩ := hA
  have hm : len ≤ maxLen := Nat.le_trans hcl hcm
  clear hcl hcm
  have hl := hr.1
  by_cases hbig : 16384 < len
  · have HP : Hid (putN xs = ([], 17)) := by unfold Hid putN; rw [if_pos (by omega)]
    have i1 : (len : Int) > 16384 := by omega
    unfold maxLen at hm
    go_enter Tryd.func8, Tryd.ntmps8
    go_wp2
    go_ret2
    rw [HP.out]
    exact ⟨_, rfl, World.ownsRow_nil _ _ _ _, Below.refl _ _⟩
  · have HP : Hid (putN xs = (frN crcN xs, 0)) := by unfold Hid putN; rw [if_neg (by omega)]
    have i1 : ¬ (len : Int) > 16384 := by omega
    unfold maxLen at hm
    go_enter Tryd.func8, Tryd.ntmps8
    go_wp2_with fail
    refine (number_any len w (by omega)).mono ?_
    rintro e w1 ⟨rfl, hw1⟩
    have hbel1 : Below w.heap.size w w1 := by rw [hw1]; exact below_new w _
    have hblk1 : Blk w1 w.heap.size 5 .u8 (be4 len) := by rw [hw1]; exact Blk.new w _ _ _
    have HB1 : Hid (Below w.heap.size w w1 ∧ Blk w1 w.heap.size 5 .u8 (be4 len)) := ⟨hbel1, hblk1⟩
    clear hw1 hbel1 hblk1
    go_wp2_with fail
    refine (fsum_any a len cap xs w1 (hr.below HB1.out.1) (by unfold maxLen; omega) hb (hT.below HB1.out.1)).mono ?_
    rintro e w2 ⟨g2, rfl, hg2, hblk2, hbel2⟩
    have HB2 : Hid (Below w.heap.size w w2 ∧ Blk w2 g2 5 .u8 (be4 (crcN xs)) ∧ Blk w2 w.heap.size 5 .u8 (be4 len)) := ⟨HB1.out.1.trans (hbel2.mono HB1.out.1.size), hblk2, HB1.out.2.below hbel2⟩
    clear hblk2 hbel2
    have HP3 : Hid (PartsC (w2.alloc (.cells #[.slice (some ⟨w.heap.size, 0, none⟩) 4 4, .slice (some ⟨g2, 0, none⟩) 4 4, .slice a len cap] 22)) w2.heap.size [be4 len, be4 (crcN xs), xs]) :=
      parts3 w2 w.heap.size g2 a len cap xs _ _ HB2.out.2.2 HB2.out.2.1 (hr.below HB2.out.1) hn rfl rfl
    go_wp2_with fail
    refine (concat_any _ _ _ HP3.out (by simp) (by simp [be4_len]; omega)).mono ?_
    rintro e w3 ⟨v, rfl, hown, hbel3⟩
    have HF : Hid ([be4 len, be4 (crcN xs), xs].flatten = frN crcN xs) := by
      unfold Hid frN
      rw [hl]
      simp
    rw [HF.out] at hown
    have hb4 : Below w.heap.size w (w2.alloc (.cells #[.slice (some ⟨w.heap.size, 0, none⟩) 4 4, .slice (some ⟨g2, 0, none⟩) 4 4, .slice a len cap] 22)) := HB2.out.1.alloc HB2.out.1.size _
    have HZ : Hid (OwnL 5 .u8 w3 w.heap.size v (frN crcN xs) ∧ Below w.heap.size w w3) := ⟨own_mono hown hb4.size, hb4.trans (hbel3.mono hb4.size)⟩
    clear hown hbel3 hb4
    go_wp2_with fail
    go_ret2
    rw [HP.out]
    exact ⟨v, rfl, HZ.out.1, HZ.out.2⟩
theorem conv_str (w : World) (s : ByteArray) : ∃ cap w', Sem.run Tryd.prog (convert 9 22 (.string s)) w = .ok (.slice (some ⟨w.heap.size, 0, none⟩) s.size cap) w' ∧
    RowL .u8 w' (some ⟨w.heap.size, 0, none⟩) s.size (txt s) ∧ Below w.heap.size w w' ∧ s.size ≤ cap := by
  refine ⟨_, Lib.bytesWorld w 5 s, Lib.run_convert_string_bytes w 9 22 5 s Tryd.underlying9 Tryd.underlying22 Tryd.underlying5, ⟨txt_length s, .inr ⟨w.heap.size, 0, rfl, by rw [Lib.bytesWorld_size]; omega, fun i hi => ?_⟩⟩, ⟨rfl, rfl, rfl, by rw [Lib.bytesWorld_size]; omega, fun j hj => Lib.bytesWorld_at_old w _ s j hj⟩, ?_⟩
  · rw [Nat.zero_add, Lib.bytesWorld_cell w 5 s i hi]
    have hi' : i < s.data.size := hi
    simp [txt, List.getD, hi']
    rw [Array.getElem?_eq_getElem hi']; rfl
  · exact grownCap_ge w s.size 0 _
/-- The document's Put. -/
theorem rput_any (s : ByteArray) (w : World) (hs : s.size ≤ 9223372036854775807) :
    Calls Tryd.prog 9 #[.string s] w fun e w' => e = .returned (.tuple #[.string (strN (putN (txt s)).1), .int .i64 ((putN (txt s)).2 : Nat)]) ∧ Below w.heap.size w w' := by
  have hl := txt_length s
  by_cases hbig : 16384 < s.size
  · have HP : Hid (putN (txt s) = ([], 17)) := by unfold Hid putN; rw [if_pos (by omega)]
    have i1 : (s.size : Int) > 16384 := by omega
    go_enter Tryd.func9, Tryd.ntmps9
    go_wp2
    go_ret2
    rw [HP.out]
    exact ⟨rfl, Below.refl _ _⟩
  · have HP : Hid (putN (txt s) = (frN crcN (txt s), 0)) := by unfold Hid putN; rw [if_neg (by omega)]
    have i1 : ¬ (s.size : Int) > 16384 := by omega
    go_enter Tryd.func9, Tryd.ntmps9
    go_wp2_with fail
    refine (four_any s.size w (by omega)).mono ?_
    rintro e w1 ⟨rfl, hb1⟩
    obtain ⟨cap, w2, hcv, hrow2, hb2, hcap⟩ := conv_str w1 s
    have HW : Hid (Below w.heap.size w w2 ∧ RowL .u8 w2 (some ⟨w1.heap.size, 0, none⟩) s.size (txt s)) := ⟨hb1.trans (hb2.mono hb1.size), hrow2⟩
    have hP : Hid _ := parts_alloc1 w2 (some ⟨w1.heap.size, 0, none⟩) s.size cap (txt s) (row_of hrow2 (by unfold maxLen; omega) (txt_lt s))
    have HB3 : Hid (Below w.heap.size w (w2.alloc (.cells #[.slice (some ⟨w1.heap.size, 0, none⟩) s.size cap] 22))) := HW.out.1.alloc HW.out.1.size _
    clear hb1 hb2 hrow2
    generalize hf1 : strN (be4 s.size) = t1
    go_wp2_with fail
    refine (rsum_any _ 1 1 [txt s] _ hP.out).mono ?_
    rintro e w3 ⟨rfl, rfl⟩
    rw [sums_one]
    have hc := crcN_lt (txt s) (txt_lt s)
    go_wp2_with fail
    refine (four_any (crcN (txt s)) _ hc).mono ?_
    rintro e w4 ⟨rfl, hb4⟩
    have HB4 : Hid (Below w.heap.size w w4) := HB3.out.trans (hb4.mono HB3.out.size)
    clear hb4
    have hadd1 : ∀ W, (Op.stringOp .add t1 (strN (be4 (crcN (txt s))))).run Tryd.prog W = .ok (.string (strN (be4 s.size ++ be4 (crcN (txt s))))) W := fun W => by
      rw [← hf1]
      exact str_add _ _ (by simp [be4_len]) W
    have hadd2 : ∀ W, (Op.stringOp .add (strN (be4 s.size ++ be4 (crcN (txt s)))) s).run Tryd.prog W = .ok (.string (strN (putN (txt s)).1)) W := fun W => by
      have := str_add (be4 s.size ++ be4 (crcN (txt s))) (txt s) (by simp [be4_len]; omega) W
      rw [strN_txt] at this
      rw [this, HP.out]
      unfold frN
      rw [hl, List.append_assoc]
    have HP2 : Hid ((putN (txt s)).2 = 0) := by rw [HP.out]; exact rfl
    clear hf1
    generalize strN (be4 s.size ++ be4 (crcN (txt s))) = t3 at *
    generalize strN (be4 (crcN (txt s))) = t2 at *
    obtain ⟨t4, h4⟩ : ∃ t, t = strN (putN (txt s)).1 := ⟨_, rfl⟩
    rw [← h4] at hadd2
    have H4 : Hid (t4 = strN (putN (txt s)).1) := h4
    clear h4
    go_wp2_with fail
    go_ret2
    rw [HP2.out, ← H4.out]
    exact ⟨rfl, HB4.out⟩
end Go.Proofs.YtaahmpabhophfaaDoor
