/-
  The program's Text of any moment.
-/
import Derived.Test.YtfgdfdjoidpejabDoorWhenText0
namespace Go.Proofs.YtfgdfdjoidpejabDoor
open Go.ChangeShapes Go.WideShapes Go.ChangeAt Go.RowKit
set_option linter.unusedVariables false
set_option linter.unusedSimpArgs false
theorem ptext_bad (t : Int) (w : World) (h : t < -62135596800 ∨ 253402300799 < t) :
    Calls Tryd.prog 10 #[.int .i64 t] w fun e w' => e = .returned (.tuple #[.string (strN []), .int .i64 4]) ∧ Below w.heap.size w w' := by
  have HF : Hid _ := fld_bad t w h
  clear h
  go_enter Tryd.func10, Tryd.ntmps10
  go_wp2_with fail
  refine Calls.mono HF.out ?_
  rintro _ w1 ⟨rfl, hb1⟩
  have HZ : Hid (Blk (w1.alloc (.cells #[.int .i64 0, .int .i64 0, .int .i64 0, .int .i64 0, .int .i64 0, .int .i64 0] 40)) w1.heap.size 40 .i64 [0, 0, 0, 0, 0, 0]) := Blk.new w1 _ .i64 [0, 0, 0, 0, 0, 0]
  have HST : Hid _ := agg_store HZ.out whenT rfl (m := [0, 0, 0, 0, 0, 0]) rfl
  have HE : Hid (Below w.heap.size w ((w1.alloc (.cells #[.int .i64 0, .int .i64 0, .int .i64 0, .int .i64 0, .int .i64 0, .int .i64 0] 40)).setRow w1.heap.size (encL .i64 [0, 0, 0, 0, 0, 0]))) := hb1.trans ((below_row (below_new w1 _) (Nat.le_refl _) _).mono hb1.size)
  clear hb1 HF
  rw [show dateV 0 0 0 0 0 0 = .agg (encL .i64 [0, 0, 0, 0, 0, 0]) from rfl]
  go_wp2_with (refine store_op rfl 40 _ _ rfl ⟨w1.heap.size, 0, none⟩ rfl _ rfl HST.out ?_)
  go_ret2
  exact ⟨rfl, HE.out⟩
set_option maxHeartbeats 4000000 in
theorem ptext_good (T : Nat) (t : Int) (w : World) (hT : Tab w) (ht : t + 62135596800 = (T : Int)) (h9 : T < 315537897600) :
    Calls Tryd.prog 10 #[.int .i64 t] w fun e w' => (∃ y mo d h mi s : Nat, e = .returned (.tuple #[.string (strN (textN y mo d h mi s)), .int .i64 0]) ∧ OkD y mo d h mi s ∧ secN y mo d h mi s = T) ∧ Below w.heap.size w w' := by
  have HF : Hid _ := fld_good T t w hT ht h9
  clear ht h9 hT
  go_enter Tryd.func10, Tryd.ntmps10
  go_wp2_with fail
  refine Calls.mono HF.out ?_
  rintro _ w1 ⟨⟨y, mo, d, h, mi, s, rfl, hok, hsec⟩, hb1⟩
  have HOK : Hid (OkD y mo d h mi s ∧ secN y mo d h mi s = T) := ⟨hok, hsec⟩
  have HZ : Hid (Blk (w1.alloc (.cells #[.int .i64 0, .int .i64 0, .int .i64 0, .int .i64 0, .int .i64 0, .int .i64 0] 40)) w1.heap.size 40 .i64 [0, 0, 0, 0, 0, 0]) := Blk.new w1 _ .i64 [0, 0, 0, 0, 0, 0]
  have HST : Hid _ := agg_store HZ.out whenT rfl (m := [y, mo, d, h, mi, s]) rfl
  have HE : Hid (Below w.heap.size w ((w1.alloc (.cells #[.int .i64 0, .int .i64 0, .int .i64 0, .int .i64 0, .int .i64 0, .int .i64 0] 40)).setRow w1.heap.size (encL .i64 [y, mo, d, h, mi, s]))) := hb1.trans ((below_row (below_new w1 _) (Nat.le_refl _) _).mono hb1.size)
  have HLD : Hid _ := agg_load (HZ.out.setRow [y, mo, d, h, mi, s]) whenT rfl
  have HX : Hid _ := dtext_any y mo d h mi s ((w1.alloc (.cells #[.int .i64 0, .int .i64 0, .int .i64 0, .int .i64 0, .int .i64 0, .int .i64 0] 40)).setRow w1.heap.size (encL .i64 [y, mo, d, h, mi, s])) hok
  clear hb1 HF hok hsec
  rw [show dateV y mo d h mi s = .agg (encL .i64 [y, mo, d, h, mi, s]) from rfl] at *
  go_wp2_with (first
    | (refine store_op rfl 40 _ _ rfl ⟨w1.heap.size, 0, none⟩ rfl _ rfl HST.out ?_)
    | (refine load_op rfl 40 _ rfl ⟨w1.heap.size, 0, none⟩ rfl _ HLD.out ?_))
  refine Calls.mono HX.out ?_
  rintro _ w2 ⟨rfl, hb2⟩
  have hfin := HE.out.trans (hb2.mono HE.out.size)
  clear hb2
  go_wp2_with fail
  go_ret2
  exact ⟨⟨y, mo, d, h, mi, s, rfl, HOK.out⟩, hfin⟩
end Go.Proofs.YtfgdfdjoidpejabDoor
