/-
  The landed frame's Scan: a list of slices of the call's own.
-/
import Derived.Test.YtaahmpabhophfaaDoorFrameRef
namespace Go.Proofs.YtaahmpabhophfaaDoor
open Go.ChangeShapes Go.WideShapes Go.ChangeAt Go.RowKit
set_option linter.unusedVariables false
set_option linter.unusedSimpArgs false
theorem info_sl : (Tryd.prog.info? 22).map (fun i => (i.zero, i.size, i.bytes)) = some (some (.slice none 0 0), 1, 24) := by kernel_rfl
theorem OwnL.below2 {e : TypeId} {k : IntKind} {w w' : World} {base : Nat} {v : Value} {xs : List Nat} (h : OwnL e k w base v xs) (hb : Below w.heap.size w w') : OwnL e k w' base v xs := by
  obtain ⟨h1, h2⟩ := h
  refine ⟨h1, ?_⟩
  rcases h2 with h2 | ⟨g, cap, cur, hv, hg, hh, hr⟩
  · exact .inl h2
  · exact .inr ⟨g, cap, cur, hv, hg, (hb.block g (Array.getElem?_eq_some_iff.1 hh).1).trans hh, hr⟩
/-- A slice of bytes of the call's own, as what is asked of bytes that came in. -/
theorem OwnL.byt {w : World} {base : Nat} {v : Value} {xs : List Nat} (h : OwnL 5 .u8 w base v xs) (hb : ∀ c ∈ xs, c < 256) : ∃ a cap, v = .slice a xs.length cap ∧ BytL w a xs.length cap xs ∧ ∀ g o, a = some ⟨g, o, none⟩ → base ≤ g ∧ o = 0 := by
  obtain ⟨a, cap, hv, hrow, hle, hat⟩ := OwnL.row h
  have hcap : (a = none → xs.length = 0 ∧ cap = 0) ∧ cap ≤ maxLen := by
    obtain ⟨h1, ⟨hv2, h2⟩ | ⟨g, cap2, cur, hv2, hg, hbk, hn, hmm, hs, ht⟩⟩ := h
    · rw [hv] at hv2
      injection hv2 with e1 e2 e3
      exact ⟨fun _ => ⟨h2, e3⟩, by omega⟩
    · rw [hv] at hv2
      injection hv2 with e1 e2 e3
      exact ⟨fun h => (by rw [e1] at h; cases h), by omega⟩
  exact ⟨a, cap, hv, ⟨hrow, hcap.1, hb, hle, hcap.2⟩, hat⟩
/-- The call's own list of its own slices of bytes. -/
def OwnB (w : World) (base : Nat) (v : Value) (bs : List (List Nat)) : Prop :=
  ∃ vs : List Value, vs.length = bs.length ∧ w.ownsRow base 22 1 v vs.length vs ∧ ∀ i, i < bs.length → OwnL 5 .u8 w base (vs.getD i undef) (bs.getD i [])
theorem OwnB.nil (w : World) (base : Nat) : OwnB w base (.slice none 0 0) [] := ⟨[], rfl, World.ownsRow_nil _ _ _ _, fun i hi => by simp at hi⟩
theorem OwnB.below2 {w w' : World} {base : Nat} {v : Value} {bs : List (List Nat)} (h : OwnB w base v bs) (hb : Below w.heap.size w w') : OwnB w' base v bs := by
  obtain ⟨vs, hl, ho, hi⟩ := h
  refine ⟨vs, hl, ?_, fun i hi' => (hi i hi').below2 hb⟩
  obtain ⟨h1, h2⟩ := ho
  refine ⟨h1, ?_⟩
  rcases h2 with h2 | ⟨g, cap, cur, hv, hg, hh, hr⟩
  · exact .inl h2
  · exact .inr ⟨g, cap, cur, hv, hg, (hb.block g (Array.getElem?_eq_some_iff.1 hh).1).trans hh, hr⟩
/-- A slice of bytes lies elsewhere than the list. -/
theorem own_apart {w : World} {base base' : Nat} {v u : Value} {n : Nat} {vs : List Value} {xs : List Nat} (h : w.ownsRow base 22 1 v n vs) (k : OwnL 5 .u8 w base' u xs) : u.ownBlock = none ∨ u.ownBlock ≠ v.ownBlock := by
  obtain ⟨-, ⟨rfl, -⟩ | ⟨g, cap, cur, rfl, hg, hh, hr⟩⟩ := k
  · exact .inl rfl
  · right
    obtain ⟨-, ⟨rfl, -⟩ | ⟨g2, cap2, cur2, rfl, hg2, hh2, hr2⟩⟩ := h
    · simp [Value.ownBlock]
    · intro e
      simp [Value.ownBlock] at e
      subst e
      rw [hh] at hh2
      simp at hh2
theorem append_own (w : World) {ops : Array Oper} {rest : List Oper} {o : Oper} {a : Act} {Q : Exit → Act → World → Prop} (hgd : o.guard = none) (s x : Operand)
    (ho : o.op = .call { callee := .builtin .append, args := #[s, x], argTypes := #[34, 34] })
    (base : Nat) (v : Value) (bs : List (List Nat)) (hs : a.eval s = v) (hown : OwnB w base v bs) (u : Value) (xs : List Nat) (hu : OwnL 5 .u8 w base u xs) (C : Value) (hC : C = u) (N : Nat) (hx : a.eval x = .slice (some ⟨N, 0, none⟩) 1 1) (hN : N = w.heap.size)
    (hl : bs.length ≤ 1048576) (hb : base ≤ w.heap.size)
    (h : ∀ v' w', OwnB w' base v' (bs ++ [xs]) → Below base w w' → wpList Tryd.prog ops Q rest (a.put o.dst v') w') :
    wpList Tryd.prog ops Q (o :: rest) a (w.alloc (.cells #[C] 22)) := by
  subst hN hC
  obtain ⟨i0, hi, hz0, hz1, hz2⟩ := info_parts info_sl
  obtain ⟨vs, hvl, hov, hit⟩ := hown
  have hbn := below_new w (.cells #[C] 22)
  refine wpList_append_own _ hgd s x 34 ho base 22 i0 (.slice none 0 0) 1 24 Tryd.underlying34 hi hz0 hz1 hz2 rfl (by decide) v vs.length vs hs (hov.alloc _) ⟨w.heap.size, 0, none⟩ 1 1 [C] hx rfl ?_ ?_ (by unfold maxLen; omega) (by omega) (by simp; omega) ?_
  · intro j u hj
    match j, hj with
    | 0, hj => simp at hj; subst hj; simp [Addr.add, go_sem]
  · intro u' hu'
    simp at hu'
    subst hu'
    obtain ⟨-, ⟨rfl, -⟩ | ⟨g, cap, cur, rfl, hg, hh, hr⟩⟩ := hu <;> rfl
  · intro v' w' h1 h2 _
    have hov2 := hov.alloc (.cells #[C] 22)
    have keep : ∀ {u : Value} {ys : List Nat}, OwnL 5 .u8 w base u ys → OwnL 5 .u8 w' base u ys := fun {u ys} hk =>
      World.ownsRow.kept (hk.below2 hbn) h2 (own_apart hov2 (hk.below2 hbn))
    refine h v' w' ⟨vs ++ [C], by simp [hvl], ?_, fun i hi' => ?_⟩ ?_
    · have e : (vs ++ [C]).length = vs.length + 1 := by simp
      rw [e]
      exact h1
    · by_cases hlt : i < bs.length
      · have := keep (hit i hlt)
        simpa [List.getD, List.getElem?_append_left hlt, List.getElem?_append_left (show i < vs.length by omega)] using this
      · have hie : i = bs.length := by simp at hi'; omega
        subst hie
        have e1 : (vs ++ [C]).getD bs.length undef = C := by rw [← hvl]; simp [List.getD]
        have e2 : (bs ++ [xs]).getD bs.length [] = xs := by simp [List.getD]
        rw [e1, e2]
        exact keep hu
    · refine Below.grown (w := w.alloc (.cells #[C] 22)) ((Below.refl _ _).alloc hb _) h2 (by simp; omega) ?_
      intro j hj
      exact (hov.lt j hj).1
theorem BytL.rest {w : World} {a : Option Addr} {len cap : Nat} {xs : List Nat} (h : BytL w a len cap xs) (u : Nat) (hu : u ≤ len) :
    ∃ a', BytL w a' (len - u) (cap - u) (xs.drop u) ∧ (Instr.slice 22 (.slice a len cap) (some (.int .i64 (u : Nat))) none none).run Tryd.prog w = .ok (.slice a' (len - u) (cap - u)) w := by
  obtain ⟨hr, hn, hb, hcl, hcm⟩ := h
  have hl := hr.1
  unfold maxLen at hcm
  have hbb : ∀ c ∈ xs.drop u, c < 256 := fun c hc => hb c (List.mem_of_mem_drop hc)
  cases a with
  | none =>
    obtain ⟨rfl, rfl⟩ := hn rfl
    obtain rfl : u = 0 := by omega
    refine ⟨none, ⟨⟨by simp [hl], .inl rfl⟩, fun _ => ⟨rfl, rfl⟩, hbb, Nat.le_refl _, by unfold maxLen; omega⟩, ?_⟩
    go_simp
  | some ad =>
    by_cases hcu : cap = u
    · have hlu : len = u := by omega
      subst hcu hlu
      refine ⟨some ad, ⟨⟨by simp [hl], .inl (by omega)⟩, (fun h => by cases h), hbb, by omega, by unfold maxLen; omega⟩, ?_⟩
      go_simp
    · by_cases h0 : len = 0
      · obtain rfl : u = 0 := by omega
        subst h0
        obtain ⟨b, off, spot⟩ := ad
        refine ⟨some ((⟨b, off, spot⟩ : Addr).add 0), ⟨⟨by simp [hl], .inl rfl⟩, (fun h => by cases h), hbb, by omega, by unfold maxLen; omega⟩, ?_⟩
        clear hn hcl hr hb hbb
        go_simp
      · obtain ⟨b, off, e, hlt, hc⟩ := hr.at 0 (by omega)
        cases e
        have hp := hr.part u (len - u) (by omega)
        rw [List.take_of_length_le (by simp [hl])] at hp
        refine ⟨some ⟨b, off + u, none⟩, ⟨hp, (fun h => by cases h), hbb, by omega, by unfold maxLen; omega⟩, ?_⟩
        have h1 : (u : Int) ≤ (len : Int) := by omega
        clear hn hcl hr hc hp hb hbb
        go_simp
theorem scan_step (S : List Nat → Nat) (xs : List Nat) (f : Nat) (h : (firstN S xs).2.2 = 0) : scanN S (f + 1) xs = ((firstN S xs).1 :: (scanN S f (xs.drop (firstN S xs).2.1)).1, (firstN S xs).2.1 + (scanN S f (xs.drop (firstN S xs).2.1)).2) := by
  rw [scanN, if_pos h]
theorem scan_stop (S : List Nat → Nat) (xs : List Nat) (f : Nat) (h : (firstN S xs).2.2 ≠ 0) : scanN S (f + 1) xs = ([], 0) := by
  rw [scanN, if_neg h]
set_option maxHeartbeats 1000000 in
theorem scan_any (a : Option Addr) (len cap : Nat) (xs : List Nat) (w : World) (hA : BytL w a len cap xs) (hT : HalfTab w) (hc : (scanN crcN (len + 1) xs).1.length ≤ 1048576) :
    Calls Tryd.prog 13 #[.slice a len cap] w fun e w' => ∃ v, e = .returned (.tuple #[v, .int .i64 ((scanN crcN (len + 1) xs).2 : Nat)]) ∧ OwnB w' w.heap.size v (scanN crcN (len + 1) xs).1 ∧ Below w.heap.size w w' := by
  have hl := hA.1.1
  have hcm : len ≤ maxLen := Nat.le_trans hA.2.2.2.1 hA.2.2.2.2
  unfold maxLen at hcm
  obtain ⟨R, hR⟩ : ∃ R, R = scanN crcN (len + 1) xs := ⟨_, rfl⟩
  have HR : Hid (scanN crcN (len + 1) xs = R) := hR.symm
  rw [← hR] at hc
  have HC : Hid (R.1.length ≤ 1048576) := hc
  have HA : Hid (BytL w a len cap xs) := hA
  have HT : Hid (HalfTab w) := hT
  have HL : Hid (xs.length = len) := hl
  clear hR hc hA hT hl
  go_enter Tryd.func13, Tryd.ntmps13
  go_wp2
  go_loopw [4, 5] (fun ov uv wr => ∃ (wz : World) (u : Nat) (v0 : Value) (bs : List (List Nat)) (f : Nat), wz = wr ∧ ov = v0 ∧ uv = .int .i64 u ∧ u ≤ len ∧ len - u ≤ f ∧ OwnB wz w.heap.size v0 bs ∧ Below w.heap.size w wz ∧ R = (bs ++ (scanN crcN (f + 1) (xs.drop u)).1, u + (scanN crcN (f + 1) (xs.drop u)).2)) (fun _ uv _ => len - (intOf uv).toNat)
  case atStart => exact ⟨w, 0, _, [], len, rfl, rfl, rfl, Nat.zero_le _, by omega, OwnB.nil w _, Below.refl _ _, by rw [List.drop_zero, HR.out]; simp⟩
  case round =>
    obtain ⟨wr, u, ov, bs, f, hwr, hov, rfl, hu, hf, hown, hbe, hres⟩ := hrel
    subst hwr
    replace hov := hov.symm
    subst hov
    obtain ⟨a', hB, hrun⟩ := BytL.rest (HA.out.below hbe) u hu
    have HB : Hid (BytL wr a' (len - u) (cap - u) (xs.drop u)) := hB
    have HOWN : Hid (OwnB wr w.heap.size ov bs) := hown
    have HBE : Hid (Below w.heap.size w wr) := hbe
    have HRES : Hid (R = (bs ++ (scanN crcN (f + 1) (xs.drop u)).1, u + (scanN crcN (f + 1) (xs.drop u)).2)) := hres
    have hsz := hbe.size
    have HFI : Hid _ := first_any a' (len - u) (cap - u) (xs.drop u) wr hB (HT.out.below hbe)
    clear hown hbe hres hB
    by_cases h0 : (firstN crcN (xs.drop u)).2.2 = 0
    · have HST : Hid _ := scan_step crcN (xs.drop u) f h0
      have HLE : Hid _ := first_le crcN (xs.drop u) h0
      rw [h0] at HFI
      clear h0
      go_wp2_with fail
      refine Calls.mono HFI.out ?_
      rintro e w1 ⟨v1, rfl, hown1, hbel1⟩
      have HOWN1 : Hid (OwnB w1 w.heap.size ov bs ∧ OwnL 5 .u8 w1 w.heap.size v1 (firstN crcN (xs.drop u)).1 ∧ Below w.heap.size w w1) := ⟨HOWN.out.below2 hbel1, own_mono hown1 hsz, HBE.out.trans (hbel1.mono hsz)⟩
      obtain ⟨a1, c1, hv1, -⟩ := OwnL.row hown1
      subst hv1
      clear hown1 hbel1
      generalize firstN crcN (xs.drop u) = F at *
      obtain ⟨k, hk⟩ : ∃ k, k = F.2.1 := ⟨_, rfl⟩
      rw [← hk] at HLE HST ⊢
      have hk8 := HLE.out.1
      have hkl := HLE.out.2.1
      rw [List.length_drop, HL.out] at hkl
      clear hk
      obtain ⟨f', rfl⟩ : ∃ f', f = f' + 1 := ⟨f - 1, by omega⟩
      have HRES2 : Hid (R = ((bs ++ [F.1]) ++ (scanN crcN (f' + 1) (xs.drop (u + k))).1, u + k + (scanN crcN (f' + 1) (xs.drop (u + k))).2)) := by
        have h1 := HRES.out
        rw [HST.out, List.drop_drop] at h1
        rw [Hid, h1]
        simp [Nat.add_assoc]
      have HBL : Hid (bs.length ≤ 1048576) := by
        have h1 := HC.out
        have h2 := congrArg (fun r => r.1.length) HRES2.out
        simp only [List.length_append, List.length_cons, List.length_nil] at h2
        unfold Hid; omega
      have hsz1 := HOWN1.out.2.2.size
      go_wp2_with (at_builtin; (refine append_own w1 rfl _ _ rfl w.heap.size ov bs rfl HOWN1.out.1 _ F.1 HOWN1.out.2.1 _ rfl w1.heap.size rfl rfl HBL.out hsz1 ?_; intro v5 w5 hown5 hb5))
      go_roundw
      case rel => exact ⟨w5, u + k, v5, bs ++ [F.1], f', rfl, rfl, by go_num, by omega, by omega, hown5, HOWN1.out.2.2.trans hb5, HRES2.out⟩
      case measure => simp [intOf]; omega
    · have hle := first_err crcN (xs.drop u)
      have HST : Hid (scanN crcN (f + 1) (xs.drop u) = ([], 0)) := scan_stop crcN (xs.drop u) f h0
      obtain ⟨er, her⟩ : ∃ er, er = (firstN crcN (xs.drop u)).2.2 := ⟨_, rfl⟩
      rw [← her] at HFI h0 hle
      have hi : ((er : Int) != 0) = true := by rw [bne_iff_ne]; omega
      clear her
      go_wp2_with fail
      refine Calls.mono HFI.out ?_
      rintro e w1 ⟨v1, rfl, hown1, hbel1⟩
      have HOWN1 : Hid (OwnB w1 w.heap.size ov bs ∧ Below w.heap.size w w1) := ⟨HOWN.out.below2 hbel1, HBE.out.trans (hbel1.mono hsz)⟩
      clear hown1 hbel1
      have HRR : Hid (R = (bs, u)) := by have h1 := HRES.out; rw [HST.out] at h1; rw [Hid, h1]; simp
      go_wp2_with fail
      go_ret2
      rw [HR.out, HRR.out]
      exact ⟨ov, rfl, HOWN1.out.1, HOWN1.out.2⟩
end Go.Proofs.YtaahmpabhophfaaDoor
