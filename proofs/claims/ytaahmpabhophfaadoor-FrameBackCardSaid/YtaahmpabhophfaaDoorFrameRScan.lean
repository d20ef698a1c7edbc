/-
  The document's Scan: a list of texts of the call's own.
-/
import Derived.Test.YtaahmpabhophfaaDoorFrameScan
namespace Go.Proofs.YtaahmpabhophfaaDoor
open Go.ChangeShapes Go.WideShapes Go.ChangeAt Go.RowKit
set_option linter.unusedVariables false
set_option linter.unusedSimpArgs false
theorem info_str : (Tryd.prog.info? 9).map (fun i => (i.zero, i.size, i.bytes)) = some (some (.string ByteArray.empty), 1, 16) := by kernel_rfl
def encS (bs : List (List Nat)) : List Value := bs.map fun l => Value.string (strN l)
def OwnX (w : World) (base : Nat) (v : Value) (bs : List (List Nat)) : Prop := w.ownsRow base 9 1 v bs.length (encS bs)
theorem OwnX.empty (w : World) : OwnX (w.alloc (.cells #[] 9)) w.heap.size (.slice (some ⟨w.heap.size, 0, none⟩) 0 0) [] :=
  World.ownsRow_lit w #[] 0 (Nat.le_refl _) (by decide) rfl
theorem OwnX.below2 {w w' : World} {base : Nat} {v : Value} {bs : List (List Nat)} (h : OwnX w base v bs) (hb : Below w.heap.size w w') : OwnX w' base v bs := by
  obtain ⟨h1, h2⟩ := h
  refine ⟨h1, ?_⟩
  rcases h2 with h2 | ⟨g, cap, cur, hv, hg, hh, hr⟩
  · exact .inl h2
  · exact .inr ⟨g, cap, cur, hv, hg, (hb.block g (Array.getElem?_eq_some_iff.1 hh).1).trans hh, hr⟩
theorem append_str (w : World) {ops : Array Oper} {rest : List Oper} {o : Oper} {a : Act} {Q : Exit → Act → World → Prop} (hgd : o.guard = none) (sl x : Operand)
    (ho : o.op = .call { callee := .builtin .append, args := #[sl, x], argTypes := #[37, 37] })
    (base : Nat) (v : Value) (bs : List (List Nat)) (hs : a.eval sl = v) (hown : OwnX w base v bs) (l : List Nat) (C : Value) (hC : C = .string (strN l)) (N : Nat) (hx : a.eval x = .slice (some ⟨N, 0, none⟩) 1 1) (hN : N = w.heap.size)
    (hl : bs.length ≤ 1048576) (hb : base ≤ w.heap.size)
    (h : ∀ v' w', OwnX w' base v' (bs ++ [l]) → Below base w w' → wpList Tryd.prog ops Q rest (a.put o.dst v') w') :
    wpList Tryd.prog ops Q (o :: rest) a (w.alloc (.cells #[C] 9)) := by
  subst hN hC
  obtain ⟨i0, hi, hz0, hz1, hz2⟩ := info_parts info_str
  refine wpList_append_own _ hgd sl x 37 ho base 9 i0 (.string ByteArray.empty) 1 16 Tryd.underlying37 hi hz0 hz1 hz2 rfl (by decide) v bs.length (encS bs) hs (hown.alloc _) ⟨w.heap.size, 0, none⟩ 1 1 [.string (strN l)] hx rfl ?_ ?_ (by unfold maxLen; omega) (by omega) (by simp; omega) ?_
  · intro j u hj
    match j, hj with
    | 0, hj => simp at hj; subst hj; simp [Addr.add, go_sem]
  · intro u hu; simp at hu; subst hu; rfl
  · intro v' w' h1 h2 _
    refine h v' w' ?_ ?_
    · unfold OwnX encS
      rw [List.length_append, List.map_append]
      exact h1
    · refine Below.grown (w := w.alloc (.cells #[.string (strN l)] 9)) ((Below.refl _ _).alloc hb _) h2 (by simp; omega) ?_
      intro j hj
      exact (hown.lt j hj).1
set_option maxHeartbeats 1000000 in
theorem rscan_any (s : ByteArray) (w : World) (hs : s.size ≤ 9223372036854775806) (hc : (scanN crcN (s.size + 1) (txt s)).1.length ≤ 1048576) :
    Calls Tryd.prog 14 #[.string s] w fun e w' => ∃ v, e = .returned (.tuple #[v, .int .i64 ((scanN crcN (s.size + 1) (txt s)).2 : Nat)]) ∧ OwnX w' w.heap.size v (scanN crcN (s.size + 1) (txt s)).1 ∧ Below w.heap.size w w' := by
  obtain ⟨R, hR⟩ : ∃ R, R = scanN crcN (s.size + 1) (txt s) := ⟨_, rfl⟩
  have HR : Hid (scanN crcN (s.size + 1) (txt s) = R) := hR.symm
  rw [← hR] at hc
  have HC : Hid (R.1.length ≤ 1048576) := hc
  have HL : Hid ((txt s).length = s.size) := txt_length s
  clear hR hc
  go_enter Tryd.func14, Tryd.ntmps14
  go_wp2
  go_loopw [4, 5] (fun ov uv wr => ∃ (wz : World) (u : Nat) (v0 : Value) (bs : List (List Nat)) (f : Nat), wz = wr ∧ ov = v0 ∧ uv = .int .i64 u ∧ u ≤ s.size ∧ s.size - u ≤ f ∧ OwnX wz w.heap.size v0 bs ∧ Below w.heap.size w wz ∧ R = (bs ++ (scanN crcN (f + 1) ((txt s).drop u)).1, u + (scanN crcN (f + 1) ((txt s).drop u)).2)) (fun _ uv _ => s.size - (intOf uv).toNat)
  case atStart => exact ⟨_, 0, _, [], s.size, rfl, rfl, rfl, Nat.zero_le _, by omega, OwnX.empty w, below_new w _, by rw [List.drop_zero, HR.out]; simp⟩
  case round =>
    obtain ⟨wr, u, ov, bs, f, hwr, hov, rfl, hu, hf, hown, hbe, hres⟩ := hrel
    subst hwr
    replace hov := hov.symm
    subst hov
    obtain ⟨t1, ht1⟩ : ∃ t1, t1 = s.extract u s.size := ⟨_, rfl⟩
    have hrun : ∀ W, (Instr.slice 9 (.string s) (some (.int .i64 (u : Nat))) none none).run Tryd.prog W = .ok (.string t1) W := fun W => by
      rw [run_slice_string_l W _ s Tryd.underlying9 .i64 (u : Nat) (by omega) (by omega), Int.toNat_natCast, ht1]
    have HT1 : Hid (txt t1 = (txt s).drop u) := by rw [ht1, Hid, txt_extract, List.take_of_length_le (by rw [HL.out]; omega)]
    have hts : t1.size ≤ 9223372036854775807 := by rw [← txt_length, HT1.out, List.length_drop, HL.out]; omega
    have HOWN : Hid (OwnX wr w.heap.size ov bs) := hown
    have HBE : Hid (Below w.heap.size w wr) := hbe
    have HRES : Hid (R = (bs ++ (scanN crcN (f + 1) ((txt s).drop u)).1, u + (scanN crcN (f + 1) ((txt s).drop u)).2)) := hres
    have hsz := hbe.size
    have HFI : Hid _ := rfirst_any t1 wr hts
    rw [HT1.out] at HFI
    clear hown hbe hres ht1 hts
    by_cases h0 : (firstN crcN ((txt s).drop u)).2.2 = 0
    · have HST : Hid _ := scan_step crcN ((txt s).drop u) f h0
      have HLE : Hid _ := first_le crcN ((txt s).drop u) h0
      rw [h0] at HFI
      clear h0
      go_wp2_with fail
      refine Calls.mono HFI.out ?_
      rintro e w1 ⟨rfl, hbel1⟩
      have HOWN1 : Hid (OwnX w1 w.heap.size ov bs ∧ Below w.heap.size w w1) := ⟨HOWN.out.below2 hbel1, HBE.out.trans (hbel1.mono hsz)⟩
      clear hbel1
      generalize firstN crcN ((txt s).drop u) = F at *
      obtain ⟨k, hk⟩ : ∃ k, k = F.2.1 := ⟨_, rfl⟩
      rw [← hk] at HLE HST ⊢
      have hk8 := HLE.out.1
      have hkl := HLE.out.2.1
      rw [List.length_drop, HL.out] at hkl
      clear hk
      obtain ⟨f', rfl⟩ : ∃ f', f = f' + 1 := ⟨f - 1, by omega⟩
      have HRES2 : Hid (R = ((bs ++ [F.1]) ++ (scanN crcN (f' + 1) ((txt s).drop (u + k))).1, u + k + (scanN crcN (f' + 1) ((txt s).drop (u + k))).2)) := by
        have h1 := HRES.out
        rw [HST.out, List.drop_drop] at h1
        rw [Hid, h1]
        simp [Nat.add_assoc]
      have HBL : Hid (bs.length ≤ 1048576) := by
        have h1 := HC.out
        have h2 := congrArg (fun r => r.1.length) HRES2.out
        simp only [List.length_append, List.length_cons, List.length_nil] at h2
        unfold Hid; omega
      have hsz1 := HOWN1.out.2.size
      obtain ⟨t2, ht2⟩ : ∃ t2, t2 = strN F.1 := ⟨_, rfl⟩
      rw [← ht2]
      have HT2 : Hid (Value.string t2 = .string (strN F.1)) := by rw [ht2]; exact rfl
      clear ht2
      go_wp2_with (at_builtin; (refine append_str w1 rfl _ _ rfl w.heap.size ov bs rfl HOWN1.out.1 F.1 _ HT2.out w1.heap.size rfl rfl HBL.out hsz1 ?_; intro v5 w5 hown5 hb5))
      go_roundw
      case rel => exact ⟨w5, u + k, v5, bs ++ [F.1], f', rfl, rfl, by go_num, by omega, by omega, hown5, HOWN1.out.2.trans hb5, HRES2.out⟩
      case measure => simp [intOf]; omega
    · have hle := first_err crcN ((txt s).drop u)
      have HST : Hid (scanN crcN (f + 1) ((txt s).drop u) = ([], 0)) := scan_stop crcN ((txt s).drop u) f h0
      obtain ⟨er, her⟩ : ∃ er, er = (firstN crcN ((txt s).drop u)).2.2 := ⟨_, rfl⟩
      rw [← her] at HFI h0 hle
      have hi : ((er : Int) != 0) = true := by rw [bne_iff_ne]; omega
      clear her
      go_wp2_with fail
      refine Calls.mono HFI.out ?_
      rintro e w1 ⟨rfl, hbel1⟩
      have HOWN1 : Hid (OwnX w1 w.heap.size ov bs ∧ Below w.heap.size w w1) := ⟨HOWN.out.below2 hbel1, HBE.out.trans (hbel1.mono hsz)⟩
      clear hbel1
      have HRR : Hid (R = (bs, u)) := by have h1 := HRES.out; rw [HST.out] at h1; rw [Hid, h1]; simp
      generalize strN (firstN crcN ((txt s).drop u)).1 = t2 at *
      go_wp2_with fail
      go_ret2
      rw [HR.out, HRR.out]
      exact ⟨ov, rfl, HOWN1.out.1, HOWN1.out.2⟩
end Go.Proofs.YtaahmpabhophfaaDoor
