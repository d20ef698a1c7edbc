/-
  The document's fields as texts.
-/
import Derived.Test.YtngojkleehgbaaaPackW2
namespace Go.Proofs.Ytngojkleehgbaaa
open Go.ChangeShapes Go.WideShapes Go.ChangeAt Go.RowKit
set_option linter.unusedVariables false
set_option linter.unusedSimpArgs false
theorem rzig_any (a : Int) (w : World) (a0 : -9223372036854775808 ≤ a) (a1 : a ≤ 9223372036854775807) :
    Calls Try.prog 39 #[.int .i64 a] w fun e w' => e = .returned (.int .u64 (zigN a : Nat)) ∧ w' = w := by
  rw [(zigN_le a a0 a1).2]
  unfold zigV
  by_cases h : 0 ≤ a
  · rw [if_pos h]
    go_enter Try.func39, Try.ntmps39
    go_wp2
    go_ret
    exact ⟨rfl, rfl⟩
  · rw [if_neg h]
    go_enter Try.func39, Try.ntmps39
    go_wp2
    go_ret
    refine ⟨ret_int ?_, rfl⟩
    omega
theorem rnum_any (n : Nat) (w : World) (hn : n ≤ 18446744073709551615) :
    Calls Try.prog 10 #[.int .u64 (n : Nat)] w fun e w' => e = .returned (.string (strN (pkN n))) ∧ Below w.heap.size w w' := by
  go_enter Try.func10, Try.ntmps10
  go_wp2_with fail
  refine (rpackN_any n w hn).mono ?_
  rintro e w1 ⟨a, cap, rfl, hr, hb⟩
  have hcv := conv_any hr (by simp) cap
  go_wp2_with fail
  go_ret
  exact ⟨rfl, hb⟩
theorem rint_any (a : Int) (w : World) (a0 : -9223372036854775808 ≤ a) (a1 : a ≤ 9223372036854775807) :
    Calls Try.prog 12 #[.int .i64 a] w fun e w' => e = .returned (.string (strN (pkN (zigN a)))) ∧ Below w.heap.size w w' := by
  have z0 := (zigN_le a a0 a1).1
  have HZ := rzig_any a w a0 a1
  generalize zigN a = z at *
  go_enter Try.func12, Try.ntmps12
  go_wp2_with fail
  refine HZ.mono ?_
  rintro e w1 ⟨rfl, rfl⟩
  go_wp2_with fail
  refine (rnum_any z w1 z0).mono ?_
  rintro e w2 ⟨rfl, hb⟩
  go_wp2_with fail
  go_ret
  exact ⟨rfl, hb⟩
theorem rflag_any (b : Bool) (w : World) : Calls Try.prog 14 #[.bool b] w fun e w' => e = .returned (.string (strN (flagN b))) ∧ w' = w := by
  cases b
  · go_enter Try.func14, Try.ntmps14
    go_wp2_with fail
    go_ret
    exact ⟨rfl, rfl⟩
  · go_enter Try.func14, Try.ntmps14
    go_wp2_with fail
    go_ret
    exact ⟨rfl, rfl⟩
theorem rtext_any (s : ByteArray) (w : World) (hs : s.size ≤ 140737488355000) :
    Calls Try.prog 16 #[.string s] w fun e w' => e = .returned (.string (strN (textN s))) ∧ Below w.heap.size w w' := by
  have h10 := (pkN_len s.size).2
  have hadd : ∀ W, (Op.stringOp .add (strN (pkN s.size)) s).run Try.prog W = .ok (.string (strN (textN s))) W := fun W => by
    have := str_add (pkN s.size) (txt s) (by rw [txt_length]; omega) W
    rw [strN_txt] at this
    exact this
  go_enter Try.func16, Try.ntmps16
  go_wp2_with fail
  refine (rnum_any s.size w (by omega)).mono ?_
  rintro e w1 ⟨rfl, hb⟩
  go_wp2_with fail
  go_ret
  exact ⟨rfl, hb⟩
theorem rdigest_any (d : List Nat) (w : World) (hd : d.length = 32) (hdb : Byt d) :
    Calls Try.prog 18 #[.agg (encL .u8 d)] w fun e w' => e = .returned (.string (strN d)) ∧ Below w.heap.size w w' := by
  have HD : Hid (Blk (w.alloc (.cells (encL .u8 d) 27)) w.heap.size 27 .u8 d) := Blk.new w 27 .u8 d
  have hb0 : Below w.heap.size w (w.alloc (.cells (encL .u8 d) 27)) := below_new w _
  have hls : (w.alloc (.cells (encL .u8 d) 27)).heap.size = w.heap.size + 1 := by simp
  go_enter Try.func18, Try.ntmps18
  go_wp2_with fail
  generalize (w.alloc (.cells (encL .u8 d) 27)) = w0 at *
  go_loopw [3, 4] (fun s ix wr => ∃ i : Nat, i ≤ 32 ∧ ix = .int .i64 i ∧ s = .string (strN (d.take i)) ∧ Blk wr w.heap.size 27 .u8 d ∧ Below w.heap.size w wr) (fun s ix wr => 32 - (intOf ix).toNat)
  case atStart => exact ⟨0, by omega, rfl, rfl, HD.out, hb0⟩
  case round =>
    obtain ⟨i, hi, rfl, rfl, hblk, hbel⟩ := hrel
    have HB : Hid (Blk wr w.heap.size 27 .u8 d ∧ Below w.heap.size w wr) := ⟨hblk, hbel⟩
    clear hbel
    by_cases h32 : i < 32
    · have hcell := hblk.cell i (by omega)
      clear hblk
      have hrow : RowL .u8 (wr.alloc (.cells #[.int .u8 (d.getD i 0 : Nat)] 5)) (some ⟨wr.heap.size, 0, none⟩) 1 [d.getD i 0] := (Blk.new wr 5 .u8 [d.getD i 0]).row
      have hcv := conv_row hrow 1
      have hadd : ∀ W, (Op.stringOp .add (strN (d.take i)) (strN [d.getD i 0])).run Try.prog W = .ok (.string (strN (d.take (i + 1)))) W := fun W => by
        rw [take_snoc d i (by omega)]
        exact str_add _ _ (by simp; omega) W
      clear hrow
      generalize d.getD i 0 = c at *
      generalize strN [c] = t1 at *
      go_wp2_with fail
      go_roundw
      case rel => exact ⟨i + 1, by omega, rfl, rfl, HB.out.1.below (below_new _ _), HB.out.2.trans ((below_new _ _).mono HB.out.2.size)⟩
      case measure => simp [intOf]; omega
    · have h3 : i = 32 := by omega
      subst h3
      go_wp2_with fail
      go_ret
      rw [List.take_of_length_le (by omega)]
      exact ⟨rfl, HB.out.2⟩
end Go.Proofs.Ytngojkleehgbaaa
