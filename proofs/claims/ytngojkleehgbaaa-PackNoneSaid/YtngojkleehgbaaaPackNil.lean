/-
  No Writer, no Reader.
-/
import Derived.Test.YtngojkleehgbaaaPackRef
import Derived.Test.YtngojkleehgbaaaPackR3
namespace Go.Proofs.Ytngojkleehgbaaa
open Go.ChangeShapes Go.WideShapes Go.ChangeAt Go.RowKit
set_option linter.unusedVariables false
set_option linter.unusedSimpArgs false
def NilW (w : World) (v : Value) (e : Ending) (w' : World) : Prop := e = .returned v ∧ Below w.heap.size w w'
theorem wnum_nil (w : World) (n : Nat) (hn : n ≤ 18446744073709551615) : Calls Try.prog 9 #[.pointer none, .int .u64 (n : Nat)] w (NilW w (.pointer none)) := by
  go_enter Try.func9, Try.ntmps9
  go_wp2_with fail
  refine (packN_any n w hn).mono ?_
  rintro e w1 ⟨a, cap, rfl, hr, hb⟩
  go_wp2_with fail
  refine (add_nil w1 _).mono ?_
  rintro e w2 ⟨rfl, rfl⟩
  go_wp2_with fail
  go_ret
  exact ⟨rfl, hb⟩
theorem wint_nil (w : World) (a : Int) (a0 : -9223372036854775808 ≤ a) (a1 : a ≤ 9223372036854775807) : Calls Try.prog 11 #[.pointer none, .int .i64 a] w (NilW w (.pointer none)) := by
  obtain ⟨z0, z1⟩ := zigN_le a a0 a1
  have HZ := zig_any a w a0 a1
  rw [← z1] at HZ
  generalize zigN a = z at *
  clear z1
  go_enter Try.func11, Try.ntmps11
  go_wp2_with fail
  refine HZ.mono ?_
  rintro e w1 ⟨rfl, rfl⟩
  go_wp2_with fail
  refine (wnum_nil w1 z z0).mono ?_
  rintro e w2 ⟨rfl, hb2⟩
  go_wp2_with fail
  go_ret
  exact ⟨rfl, hb2⟩
theorem wflag_nil (w : World) (b : Bool) : Calls Try.prog 13 #[.pointer none, .bool b] w (NilW w (.pointer none)) := by
  go_enter Try.func13, Try.ntmps13
  cases b
  · go_wp2_with fail
    refine (add_nil _ _).mono ?_
    rintro e w2 ⟨rfl, rfl⟩
    go_wp2_with fail
    go_ret
    exact ⟨rfl, below_new w _⟩
  · go_wp2_with fail
    refine (add_nil _ _).mono ?_
    rintro e w2 ⟨rfl, rfl⟩
    go_wp2_with fail
    go_ret
    exact ⟨rfl, below_new w _⟩
theorem wtext_nil (w : World) (s : ByteArray) (hs : s.size ≤ 140737488355328) : Calls Try.prog 15 #[.pointer none, .string s] w (NilW w (.pointer none)) := by
  go_enter Try.func15, Try.ntmps15
  go_wp2_with fail
  refine (wnum_nil w s.size (by omega)).mono ?_
  rintro e w1 ⟨rfl, hb1⟩
  obtain ⟨cap, w2, hcv, hr, hb2, hc⟩ := conv_str w1 s
  go_wp2_with fail
  refine (add_nil w2 _).mono ?_
  rintro e w3 ⟨rfl, rfl⟩
  go_wp2_with fail
  go_ret
  exact ⟨rfl, hb1.trans (hb2.mono hb1.size)⟩
theorem wdigest_nil (w : World) (d : List Nat) (hd : d.length = 32) : Calls Try.prog 17 #[.pointer none, .agg (encL .u8 d)] w (NilW w (.pointer none)) := by
  go_enter Try.func17, Try.ntmps17
  go_wp2_with fail
  refine (add_nil _ _).mono ?_
  rintro e w3 ⟨rfl, rfl⟩
  go_wp2_with fail
  go_ret
  exact ⟨rfl, below_new w _⟩
theorem wout_nil (w : World) : Calls Try.prog 20 #[.pointer none] w (NilW w (.slice none 0 0)) := by
  go_enter Try.func20, Try.ntmps20
  go_wp2
  go_ret
  exact ⟨rfl, Below.refl _ _⟩
theorem fail_nil (w : World) (z : Int) : Calls Try.prog 42 #[.pointer none, .int .i64 z] w fun e w' => e = .returned (.tuple #[]) ∧ w' = w := by
  go_enter Try.func42, Try.ntmps42
  go_wp2
  refine bodyPost_end (results_none rfl _ _ _) rfl ?_
  exact ⟨rfl, rfl⟩
theorem take_nil (w : World) (z : Int) : Calls Try.prog 45 #[.pointer none, .int .i64 z] w fun e w' => e = .returned (.slice none 0 0) ∧ w' = w := by
  go_enter Try.func45, Try.ntmps45
  go_wp2
  go_ret
  exact ⟨rfl, rfl⟩
theorem pnum_nil (w : World) : Calls Try.prog 22 #[.pointer none] w fun e w' => e = .returned (.int .u64 0) ∧ w' = w := by
  go_enter Try.func22, Try.ntmps22
  go_wp2
  go_ret
  exact ⟨rfl, rfl⟩
theorem pint_nil (w : World) : Calls Try.prog 24 #[.pointer none] w fun e w' => e = .returned (.int .i64 0) ∧ w' = w := by
  have HZ : Calls Try.prog 44 #[.int .u64 0] w fun e w' => e = .returned (.int .i64 0) ∧ w' = w := zag_any 0 w (by decide) (by decide)
  go_enter Try.func24, Try.ntmps24
  go_wp2_with fail
  refine (pnum_nil w).mono ?_
  rintro e w1 ⟨rfl, rfl⟩
  go_wp2_with fail
  refine HZ.mono ?_
  rintro e w1 ⟨rfl, rfl⟩
  go_wp2_with fail
  go_ret
  exact ⟨rfl, rfl⟩
theorem pcount_nil (w : World) : Calls Try.prog 31 #[.pointer none, .int .i64 9] w fun e w' => e = .returned (.int .i64 0) ∧ w' = w := by
  go_enter Try.func31, Try.ntmps31
  go_wp2_with fail
  refine (pnum_nil w).mono ?_
  rintro e w1 ⟨rfl, rfl⟩
  go_wp2_with fail
  go_ret
  exact ⟨rfl, rfl⟩
theorem pcount_nil2 (w : World) : Calls Try.prog 31 #[.pointer none, .int .i64 16384] w fun e w' => e = .returned (.int .i64 0) ∧ w' = w := by
  go_enter Try.func31, Try.ntmps31
  go_wp2_with fail
  refine (pnum_nil w).mono ?_
  rintro e w1 ⟨rfl, rfl⟩
  go_wp2_with fail
  go_ret
  exact ⟨rfl, rfl⟩
theorem pflag_nil (w : World) : Calls Try.prog 25 #[.pointer none] w fun e w' => e = .returned (.bool false) ∧ w' = w := by
  go_enter Try.func25, Try.ntmps25
  go_wp2_with fail
  refine (take_nil w 1).mono ?_
  rintro e w1 ⟨rfl, rfl⟩
  go_wp2_with fail
  go_ret
  exact ⟨rfl, rfl⟩
theorem ptext_nil (w : World) : Calls Try.prog 27 #[.pointer none] w fun e w' => e = .returned (.string (strN [])) ∧ w' = w := by
  have hcv := conv_any (w := w) (a := none) (len := 0) (xs := []) ⟨rfl, .inl rfl⟩ (fun _ => rfl) 0
  go_enter Try.func27, Try.ntmps27
  go_wp2_with fail
  refine (pcount_nil2 w).mono ?_
  rintro e w1 ⟨rfl, rfl⟩
  go_wp2_with fail
  refine (take_nil w1 0).mono ?_
  rintro e w1 ⟨rfl, rfl⟩
  go_wp2_with fail
  go_ret
  exact ⟨rfl, rfl⟩
theorem pend_nil (w : World) : Calls Try.prog 34 #[.pointer none] w fun e w' => e = .returned (.int .i64 1) ∧ w' = w := by
  go_enter Try.func34, Try.ntmps34
  go_wp2_with fail
  refine (err_nil w).mono ?_
  rintro e w1 ⟨rfl, rfl⟩
  go_wp2_with fail
  go_ret
  exact ⟨rfl, rfl⟩
set_option maxHeartbeats 1000000 in
theorem pdigest_nil (w : World) : Calls Try.prog 29 #[.pointer none] w (NilW w (.agg (encL .u8 zeroD))) := by
  have b1 : Below w.heap.size w ((w.alloc (.cells (encL .u8 zeroD) 27)).alloc (.cells (encL .u8 zeroD) 27)) := (below_new w _).alloc (by simp) _
  have HD : Hid ((Blk ((w.alloc (.cells (encL .u8 zeroD) 27)).alloc (.cells (encL .u8 zeroD) 27)) (w.heap.size + 1) 27 .u8 zeroD ∧ Blk ((w.alloc (.cells (encL .u8 zeroD) 27)).alloc (.cells (encL .u8 zeroD) 27)) w.heap.size 27 .u8 zeroD) ∧ Below w.heap.size w ((w.alloc (.cells (encL .u8 zeroD) 27)).alloc (.cells (encL .u8 zeroD) 27))) := by
    refine ⟨⟨?_, (Blk.new w _ _ _).alloc _⟩, b1⟩
    have := Blk.new (w.alloc (.cells (encL .u8 zeroD) 27)) 27 .u8 zeroD
    simpa using this
  go_enter Try.func29, Try.ntmps29
  go_wp2_with (refine alloc_op rfl 27 rfl _ (digestAlloc _) ?_)
  have hsz : (w.alloc (.cells (encL .u8 zeroD) 27)).heap.size = w.heap.size + 1 := by simp
  rw [hsz]
  generalize (w.alloc (.cells (encL .u8 zeroD) 27)).alloc (.cells (encL .u8 zeroD) 27) = w1 at *
  clear hsz b1
  refine wp_region_held_drew (S := fun w' => True) (by kernel_rfl) trivial (fun hHeld => ?_)
  try simp only [Act.put, List.setIfInBounds_toArray, List.set_cons_zero, List.set_cons_succ]
  refine held_take 0 (some 4) (.slice (some ⟨w.heap.size + 1, 0, none⟩) 32 32) rfl rfl (by kernel_rfl) (by kernel_rfl) (by kernel_rfl) (fun _ _ _ h => h) rfl (fun w' hS => ?_) hHeld ?_
  · have := slice_all (w.heap.size + 1) w'
    go_simp
  try simp only [Act.put, List.setIfInBounds_toArray, List.set_cons_zero, List.set_cons_succ]
  refine held_take 1 (some 5) (.pointer none) rfl rfl (by kernel_rfl) (by kernel_rfl) (by kernel_rfl) (fun _ _ _ h => h) rfl (fun w' hS => ?_) hHeld ?_
  · go_simp
  try simp only [Act.put, List.setIfInBounds_toArray, List.set_cons_zero, List.set_cons_succ]
  refine held_one (i := 2) (by kernel_rfl) rfl rfl (fun K hK => ?_)
  go_simp
  refine (take_nil w1.drew 32).mono ?_
  rintro _ w2 ⟨rfl, rfl⟩
  dsimp only
  refine hK.out _ _ trivial ?_
  clear hK K
  have hD2 : Blk w1.drew (w.heap.size + 1) 27 .u8 zeroD := HD.out.1.1
  refine held_one (i := 3) (by kernel_rfl) rfl rfl (fun K hK => ?_)
  refine held_copy (ops := #[]) rfl (.tmp 4) (.tmp 6) 41 41 rfl 5 Try.underlying41 (by kernel_rfl) (some ⟨w.heap.size + 1, 0, none⟩) none 32 32 0 0 rfl rfl (w.heap.size + 1) 0 (zeroD.map fun c => Value.int .u8 (c : Nat)) 27 hD2 [] rfl (fun h => by simp at h) (by simp) (fun v hv => by cases hv) (w.heap.size + 1) w1.drew (Below.refl _ _) (Nat.le_refl _) (some 7) rfl ?_
  intro w3 h3 hb3
  have hF1 : Blk w3 (w.heap.size + 1) 27 .u8 zeroD := h3.out
  have hE3 : Blk w3 w.heap.size 27 .u8 zeroD := (hb3.block _ (by omega)).trans HD.out.1.2
  have hB3 : Hid (Below w.heap.size w w3) := HD.out.2.trans ((show Below (w.heap.size + 1) w1 w3 from ⟨hb3.os, hb3.tape, hb3.output, hb3.size, hb3.block⟩).mono (by omega))
  have hD := hE3.store digestT (m := zeroD) rfl rfl
  have hE := hF1.load digestT rfl
  clear h3 hb3 hD2
  refine hK.out _ _ trivial ?_
  clear hK K
  refine wpAnyH_done (by kernel_rfl) ?_ _
  go_wp2_with (first
    | (refine load_op rfl 27 (.tmp 3) rfl ⟨w.heap.size + 1, 0, none⟩ rfl _ hE ?_)
    | (refine store_op rfl 27 (.tmp 2) (.tmp 8) rfl ⟨w.heap.size, 0, none⟩ rfl _ rfl hD ?_))
  refine bodyPost_ret (v := .agg (encL .u8 zeroD)) ?_ rfl ⟨rfl, ?_⟩
  · rw [results_cell rfl]
    exact (hE3.setRow zeroD).load digestT rfl
  · exact hB3.out.trans ⟨rfl, rfl, rfl, by simp [World.setRow], fun k hk => setRow_other _ _ k _ (by omega)⟩
end Go.Proofs.Ytngojkleehgbaaa
