/-
  The program's Escape, as a plain function of lists.
-/
import Derived.Test.YtbfgkogmojnilaaDoorLabelUn
import Derived.Test.YtbfgkogmojnilaaDoorHeld
namespace Go.Proofs.YtbfgkogmojnilaaDoor
open Go.ChangeShapes Go.WideShapes Go.ChangeAt Go.RowKit
set_option linter.unusedVariables false
set_option linter.unusedSimpArgs false
/-- Three bytes behind a slice of the call's own, at one operation. -/
theorem append_at (w : World) {o : Oper} {a : Act} {K : Act → World → Prop} {Q : Exit → Act → World → Prop} (sl x : Operand)
    (ho : o.op = .call { callee := .builtin .append, args := #[sl, x], argTypes := #[56, 56] })
    (base : Nat) (v : Value) (xs ys : List Nat) (hs : a.eval sl = v) (hown : OwnL 5 .u8 w base v xs) (g m c : Nat) (hx : a.eval x = .slice (some ⟨g, 0, none⟩) m c) (hb' : Blk w g 5 .u8 ys) (hm' : ys.length = m)
    (hl : xs.length + m ≤ 140737488355328) (hb : base ≤ w.heap.size) (d : Option Tmp) (hd : o.dst = d)
    (h : ∀ v' w', OwnL 5 .u8 w' base v' (xs ++ ys) → Below base w w' → K (a.put d v') w') : Oper.wp Tryd.prog o a w K Q := by
  subst hd hm'
  obtain ⟨i0, hi, hz0, hz1, hz2⟩ := info_parts numB8.1
  refine wp_append_own w sl x 56 ho base 5 i0 (.int .u8 0) 1 1 numB8.2 hi hz0 hz1 hz2 rfl (by decide) v xs.length (xs.map (encV .u8)) hs hown ⟨g, 0, none⟩ ys.length c (ys.map (encV .u8)) hx (by simp) ?_ ?_ (by unfold maxLen; omega) (by omega) hb ?_
  · intro j u hj
    have hj' : j < ys.length := by have := (List.getElem?_eq_some_iff.1 hj).1; simpa using this
    have hp : (⟨g, 0, none⟩ : Addr).add j = ⟨g, j, none⟩ := by unfold Addr.add; split <;> simp_all
    rw [hp, hb'.cell j hj']
    rw [List.getElem?_map, List.getElem?_eq_getElem hj'] at hj
    simp at hj
    rw [← hj]
    simp [hj', encV]
  · intro u hu
    obtain ⟨z, _, rfl⟩ := List.mem_map.1 hu
    rfl
  · intro v' w' h1 h2 _
    refine h v' w' ?_ ?_
    · unfold OwnL
      rw [List.length_append, List.map_append]
      exact h1
    · exact Below.grown (Below.refl _ _) h2 hb (fun j hj => (hown.lt j hj).1)
theorem and_low (x : Nat) (hx : x < 256) : bits .and .u8 (x : Int) 15 = ((x % 16 : Nat) : Int) := by
  have : ∀ x : Fin 256, bits .and .u8 (x.val : Int) 15 = ((x.val % 16 : Nat) : Int) := by decide +kernel
  exact this ⟨x, hx⟩
theorem hexU_get (k : Nat) (h : k < 16) : (((ByteArray.mk #[48, 49, 50, 51, 52, 53, 54, 55, 56, 57, 65, 66, 67, 68, 69, 70])[k]'h).toNat) = hexU.getD k 0 := by
  have : ∀ k : Fin 16, ((ByteArray.mk #[48, 49, 50, 51, 52, 53, 54, 55, 56, 57, 65, 66, 67, 68, 69, 70])[k.val]'k.isLt).toNat = hexU.getD k.val 0 := by decide +kernel
  exact this ⟨k, h⟩
theorem own_any {w : World} {base : Nat} {v : Value} {xs : List Nat} (h : OwnL 5 .u8 w base v xs) :
    ∃ a c, v = .slice a xs.length c ∧ Sem.run Tryd.prog (convert 56 9 (Value.slice a xs.length c)) w = .ok (.string (strN xs)) w := by
  obtain ⟨a, cap, hv, hr, -, -⟩ := h.row
  refine ⟨a, cap, hv, conv_any hr ?_ cap⟩
  intro ha
  subst ha
  rcases hr.2 with h0 | ⟨b, off, e, _⟩
  · exact h0
  · cases e
set_option maxHeartbeats 4000000 in
theorem esc_any (S : ByteArray) (w : World) (hs : S.size ≤ 35184372088832) :
    Calls Tryd.prog 26 #[.string S] w fun e w' => e = .returned (.string (strN (escN (txt S)))) ∧ Below w.heap.size w w' := by
  have HTL : Hid ((txt S).length = S.size) := txt_length S
  go_enter Tryd.func26, Tryd.ntmps26
  go_wp2_with (refine make_num numB8 w rfl _ _ rfl .i64 .i64 (S.size : Int) S.size rfl rfl rfl (by omega) (by unfold maxLen; omega) ?_; intro w0 hown0 hb0)
  have HB0 : Hid (Below w.heap.size w w0) := hb0
  have HO0 : Hid (OwnL 5 .u8 w0 w.heap.size (.slice (some ⟨w.heap.size, 0, none⟩) 0 S.size) []) := hown0
  clear hown0 hb0
  go_loopw [3, 11] (fun ov ix wr => ∃ (wz : World) (i : Nat) (v0 : Value), wz = wr ∧ ov = v0 ∧ ix = .int .i64 i ∧ i ≤ S.size ∧ OwnL 5 .u8 wz w.heap.size v0 (escN ((txt S).take i)) ∧ Below w.heap.size w wz) (fun _ ix _ => S.size - (intOf ix).toNat)
  case atStart => exact ⟨_, 0, _, rfl, rfl, rfl, Nat.zero_le _, HO0.out, HB0.out⟩
  case round =>
    clear HB0 HO0
    obtain ⟨wr, i, ov, hwr, hov, rfl, hi, hown, hbe⟩ := hrel
    subst hwr
    replace hov := hov.symm
    subst hov
    have HBE : Hid (Below w.heap.size w wr) := hbe
    have HOWN : Hid (OwnL 5 .u8 wr w.heap.size ov (escN ((txt S).take i))) := hown
    have HEL : Hid ((escN ((txt S).take i)).length ≤ 3 * i) := by
      unfold Hid
      have := esc_len ((txt S).take i)
      rw [List.length_take] at this
      omega
    clear hbe hown
    by_cases hlt : i < S.size
    · have hii : (i : Int) < (S.size : Int) := by omega
      have HG : Hid ((S[i]'hlt).toNat = (txt S).getD i 0) := get_txt S i hlt
      have HTS : Hid ((txt S).take (i + 1) = (txt S).take i ++ [(txt S).getD i 0]) := take_snoc (txt S) i (by rw [HTL.out]; exact hlt)
      obtain ⟨x, hx⟩ : ∃ x, x = (txt S).getD i 0 := ⟨_, rfl⟩
      rw [← hx] at HG HTS
      have hxs : ((S[i]'hlt).toNat : Int) = (x : Int) := by rw [HG.out]
      have hxb : x < 256 := by rw [← HG.out]; exact (S[i]'hlt).toNat_lt
      have HPL : Hid _ := plain_any x wr hxb
      have hsz := HBE.out.size
      clear hx
      by_cases hp : plainN x = true
      · have HES : Hid (escN ((txt S).take (i + 1)) = escN ((txt S).take i) ++ [x]) := by
          unfold Hid
          rw [HTS.out, esc_app, escN, if_pos hp, escN]
        rw [hp] at HPL
        clear hp
        go_wp2_with fail
        refine Calls.mono HPL.out ?_
        rintro _ w' ⟨rfl, hw⟩
        replace hw := hw.symm
        subst hw
        clear HPL
        go_wp2_with (at_builtin; (refine append_num numB8 wr rfl _ _ rfl w.heap.size ov (escN ((txt S).take i)) rfl HOWN.out x (.int .u8 (x : Nat)) rfl wr.heap.size rfl rfl (by have := HEL.out; omega) (by have := HEL.out; unfold maxLen; omega) hsz ?_; intro v5 w5 hown5 hb5))
        go_roundw
        case rel => exact ⟨w5, i + 1, v5, rfl, rfl, by go_num, by omega, by rw [HES.out]; exact hown5, HBE.out.trans hb5⟩
        case measure => simp [intOf]; omega
      · have hpf : plainN x = false := by simpa using hp
        obtain ⟨p, hpp⟩ : ∃ p, p = x / 16 := ⟨_, rfl⟩
        obtain ⟨q, hq⟩ : ∃ q, q = x % 16 := ⟨_, rfl⟩
        have hp16 : p < 16 := by omega
        have hq16 : q < 16 := by omega
        have hpi : (x : Int) / 16 = (p : Int) := by omega
        have hqi : bits .and .u8 (x : Int) 15 = (q : Int) := by rw [and_low x hxb, hq]
        have HES : Hid (escN ((txt S).take (i + 1)) = escN ((txt S).take i) ++ [37, ((ByteArray.mk #[48, 49, 50, 51, 52, 53, 54, 55, 56, 57, 65, 66, 67, 68, 69, 70])[p]'hp16).toNat, ((ByteArray.mk #[48, 49, 50, 51, 52, 53, 54, 55, 56, 57, 65, 66, 67, 68, 69, 70])[q]'hq16).toNat]) := by
          unfold Hid
          rw [HTS.out, esc_app, escN, if_neg hp, escN, hexU_get p hp16, hexU_get q hq16, hpp, hq]
        obtain ⟨y, hy⟩ : ∃ y, y = ((ByteArray.mk #[48, 49, 50, 51, 52, 53, 54, 55, 56, 57, 65, 66, 67, 68, 69, 70])[p]'hp16).toNat := ⟨_, rfl⟩
        obtain ⟨z, hz⟩ : ∃ z, z = ((ByteArray.mk #[48, 49, 50, 51, 52, 53, 54, 55, 56, 57, 65, 66, 67, 68, 69, 70])[q]'hq16).toNat := ⟨_, rfl⟩
        have hyi : (((ByteArray.mk #[48, 49, 50, 51, 52, 53, 54, 55, 56, 57, 65, 66, 67, 68, 69, 70])[p]'hp16).toNat : Int) = (y : Int) := by rw [hy]
        have hzi : (((ByteArray.mk #[48, 49, 50, 51, 52, 53, 54, 55, 56, 57, 65, 66, 67, 68, 69, 70])[q]'hq16).toNat : Int) = (z : Int) := by rw [hz]
        rw [← hy, ← hz] at HES
        rw [hpf] at HPL
        clear hp hpf hpp hq hy hz
        go_wp2_with fail
        refine Calls.mono HPL.out ?_
        rintro _ w' ⟨rfl, hw⟩
        replace hw := hw.symm
        subst hw
        clear HPL
        go_wp2_with fail
        refine wp_region_held_drew (S := fun w' => Below w.heap.size w w') (by kernel_rfl) (Below.drew HBE.out) (fun hHeld => ?_)
        refine held_take 0 (some 23) (ov) rfl rfl (by kernel_rfl) (by kernel_rfl) (by kernel_rfl) (fun _ _ _ h => h) rfl (fun w' hS => ?_) hHeld ?_
        · clear hS; go_simp
        try simp only [Act.put, List.setIfInBounds_toArray, List.set_cons_zero, List.set_cons_succ]
        refine held_take 1 (some 24) (.int .u8 (x : Nat)) rfl rfl (by kernel_rfl) (by kernel_rfl) (by kernel_rfl) (fun _ _ _ h => h) rfl (fun w' hS => ?_) hHeld ?_
        · clear hS; go_simp
        try simp only [Act.put, List.setIfInBounds_toArray, List.set_cons_zero, List.set_cons_succ]
        refine held_take 2 (some 25) (.int .u8 (p : Nat)) rfl rfl (by kernel_rfl) (by kernel_rfl) (by kernel_rfl) (fun _ _ _ h => h) rfl (fun w' hS => ?_) hHeld ?_
        · clear hS; go_simp
        try simp only [Act.put, List.setIfInBounds_toArray, List.set_cons_zero, List.set_cons_succ]
        refine held_take 3 (some 26) (.int .u8 (y : Nat)) rfl rfl (by kernel_rfl) (by kernel_rfl) (by kernel_rfl) (fun _ _ _ h => h) rfl (fun w' hS => ?_) hHeld ?_
        · clear hS; go_simp; intro h; omega
        try simp only [Act.put, List.setIfInBounds_toArray, List.set_cons_zero, List.set_cons_succ]
        refine held_take 4 (some 27) (.int .u8 (x : Nat)) rfl rfl (by kernel_rfl) (by kernel_rfl) (by kernel_rfl) (fun _ _ _ h => h) rfl (fun w' hS => ?_) hHeld ?_
        · clear hS; go_simp
        try simp only [Act.put, List.setIfInBounds_toArray, List.set_cons_zero, List.set_cons_succ]
        refine held_take 5 (some 28) (.int .u8 (q : Nat)) rfl rfl (by kernel_rfl) (by kernel_rfl) (by kernel_rfl) (fun _ _ _ h => h) rfl (fun w' hS => ?_) hHeld ?_
        · clear hS; go_simp
        try simp only [Act.put, List.setIfInBounds_toArray, List.set_cons_zero, List.set_cons_succ]
        refine held_take 6 (some 29) (.int .u8 (z : Nat)) rfl rfl (by kernel_rfl) (by kernel_rfl) (by kernel_rfl) (fun _ _ _ h => h) rfl (fun w' hS => ?_) hHeld ?_
        · clear hS; go_simp; intro h; omega
        try simp only [Act.put, List.setIfInBounds_toArray, List.set_cons_zero, List.set_cons_succ]
        refine held_one (i := 7) (by kernel_rfl) rfl rfl (fun K hK => ?_)
        go_simp
        have hS1 : Below w.heap.size w (wr.alloc (Obj.cells #[Value.int IntKind.u8 37, Value.int IntKind.u8 (y : Nat), Value.int IntKind.u8 (z : Nat)] 5)).drew := Below.drew (HBE.out.alloc hsz _)
        refine hK.out _ _ hS1 ?_
        clear hK K
        have hBk : Blk (wr.alloc (Obj.cells #[Value.int IntKind.u8 37, Value.int IntKind.u8 (y : Nat), Value.int IntKind.u8 (z : Nat)] 5)).drew wr.heap.size 5 .u8 [37, y, z] := Blk.new wr 5 .u8 [37, y, z]
        have hO1 : OwnL 5 .u8 (wr.alloc (Obj.cells #[Value.int IntKind.u8 37, Value.int IntKind.u8 (y : Nat), Value.int IntKind.u8 (z : Nat)] 5)).drew w.heap.size ov (escN ((txt S).take i)) := World.ownsRow.alloc HOWN.out _
        generalize (wr.alloc (Obj.cells #[Value.int IntKind.u8 37, Value.int IntKind.u8 (y : Nat), Value.int IntKind.u8 (z : Nat)] 5)).drew = w1 at *
        refine held_one (i := 8) (by kernel_rfl) rfl rfl (fun K hK => ?_)
        refine append_at w1 _ _ rfl w.heap.size ov (escN ((txt S).take i)) [37, y, z] rfl hO1 wr.heap.size 3 3 rfl hBk rfl (by have := HEL.out; omega) hS1.size (some 31) rfl ?_
        intro v5 w5 hown5 hb5
        have hS2 : Below w.heap.size w w5 := hS1.trans hb5
        refine hK.out _ _ hS2 ?_
        clear hK K hHeld
        try simp only [Act.put, List.setIfInBounds_toArray, List.set_cons_zero, List.set_cons_succ]
        refine held_take 9 (some 3) (v5) rfl rfl (by kernel_rfl) (by kernel_rfl) (by kernel_rfl) (fun _ _ _ h => h) rfl (fun w' hS => ?_) hS2 ?_
        · clear hS; go_simp
        try simp only [Act.put, List.setIfInBounds_toArray, List.set_cons_zero, List.set_cons_succ]
        refine wpAnyH_done (by kernel_rfl) ?_ _
        go_simp
        go_wp2_with fail
        go_roundw
        case rel => exact ⟨w5, i + 1, v5, rfl, rfl, by go_num, by omega, by rw [HES.out]; exact hown5, hS2⟩
        case measure => simp [intOf]; omega
    · have hii : ¬ (i : Int) < (S.size : Int) := by omega
      have HT : Hid ((txt S).take i = txt S) := by unfold Hid; rw [show i = S.size by omega, ← HTL.out, List.take_length]
      obtain ⟨a, c, hov, hcv⟩ := own_any HOWN.out
      rw [HT.out] at hov hcv
      subst hov
      generalize hLN : (escN (txt S)).length = LN at *
      go_wp2
      go_ret
      exact ⟨rfl, HBE.out⟩
end Go.Proofs.YtbfgkogmojnilaaDoor
