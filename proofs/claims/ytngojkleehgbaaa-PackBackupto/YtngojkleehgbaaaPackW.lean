/-
  The Writer in memory, and what each of its calls makes of it.
-/
import Derived.Test.YtngojkleehgbaaaPackMath
import Derived.Test.YtngojkleehgbaaaOwn
import Derived.Test.YtngojkleehgbaaaAggVal
namespace Go.Proofs.Ytngojkleehgbaaa
open Go.ChangeShapes Go.WideShapes Go.ChangeAt Go.RowKit
set_option linter.unusedVariables false
set_option linter.unusedSimpArgs false
theorem numT8 : NumT 41 5 .u8 1 := ⟨by kernel_rfl, Try.underlying41⟩
def WAt (w : World) (g : Nat) (xs : List Nat) : Prop := ∃ v, w.heap[g]? = some (.cells #[v] 62 (0, 0)) ∧ OwnL 5 .u8 w (g + 1) v xs ∧ Byt xs
theorem WAt.lt {w : World} {g : Nat} {xs : List Nat} (h : WAt w g xs) : g < w.heap.size := by obtain ⟨v, h, -⟩ := h; exact (Array.getElem?_eq_some_iff.1 h).1
theorem OwnL.below2 {e : TypeId} {k : IntKind} {w w' : World} {base : Nat} {v : Value} {xs : List Nat} (h : OwnL e k w base v xs) (hb : Below w.heap.size w w') : OwnL e k w' base v xs := by
  have h0 := h
  obtain ⟨h1, ⟨rfl, h2⟩ | ⟨g, cap, cur, rfl, hg, hbk, hn, hmm, hs, ht⟩⟩ := h
  · exact ⟨h1, .inl ⟨rfl, h2⟩⟩
  · exact ⟨h1, .inr ⟨g, cap, cur, rfl, hg, (hb.block g (h0.lt g rfl).2).trans hbk, hn, hmm, hs, ht⟩⟩
theorem owns_other {w w' : World} {base : Nat} {e : TypeId} {size : Nat} {v : Value} {n : Nat} {xs : List Value} (h : w.ownsRow base e size v n xs) (hk : ∀ b, v.ownBlock = some b → w'.heap[b]? = w.heap[b]?) : w'.ownsRow base e size v n xs := by
  obtain ⟨h1, h2 | ⟨g, cap, cur, hv, hg, hbk, hr⟩⟩ := h
  · exact ⟨h1, .inl h2⟩
  · exact ⟨h1, .inr ⟨g, cap, cur, hv, hg, (hk g (by rw [hv]; rfl)).trans hbk, hr⟩⟩
theorem own_ge {w : World} {base : Nat} {e : TypeId} {size : Nat} {v : Value} {n : Nat} {xs : List Value} (h : w.ownsRow base e size v n xs) {b : Nat} (hb : v.ownBlock = some b) : base ≤ b := by
  obtain ⟨h1, ⟨rfl, h2⟩ | ⟨g, cap, cur, rfl, hg, hbk, hr⟩⟩ := h
  · cases hb
  · cases hb; exact hg
theorem WAt.below {w w' : World} {g : Nat} {xs : List Nat} (h : WAt w g xs) (hb : Below w.heap.size w w') : WAt w' g xs := by
  have hl := h.lt
  obtain ⟨v, h1, h2, h3⟩ := h
  exact ⟨v, (hb.block g hl).trans h1, h2.below2 hb, h3⟩
/-- Blocks that are no bytes and no Writer stay. -/
def Kept (w w' : World) : Prop := ∀ (k : Nat) (cs : Array Value) (t : TypeId) (fr : Nat × Nat), w.heap[k]? = some (.cells cs t fr) → t ≠ 5 → t ≠ 62 → w'.heap[k]? = w.heap[k]?
theorem Kept.refl (w : World) : Kept w w := fun _ _ _ _ _ _ _ => rfl
theorem Kept.of {w w' : World} (h : Below w.heap.size w w') : Kept w w' := fun k _ _ _ hk _ _ => h.block k (Array.getElem?_eq_some_iff.1 hk).1
theorem Kept.trans {a b c : World} (h : Kept a b) (k : Kept b c) : Kept a c := fun i cs t fr hi h1 h2 => by
  have e := h i cs t fr hi h1 h2
  exact (k i cs t fr (e.trans hi) h1 h2).trans e
theorem Kept.set {w : World} {g : Nat} {cs : Array Value} {fr : Nat × Nat} (hg : w.heap[g]? = some (.cells cs 62 fr)) (i : Nat) (v : Value) : Kept w (w.setCell ⟨g, i, none⟩ v) := fun k c t f hk h1 h2 => by
  refine Below.heap_setCell w ⟨g, i, none⟩ v k ?_
  show k ≠ g
  rintro rfl
  rw [hk] at hg
  cases hg
  exact h2 rfl
/-- Bytes behind bytes of the call's own; what is no bytes stays. -/
theorem append_numsK (w : World) {ops : Array Oper} {rest : List Oper} {o : Oper} {a : Act} {Q : Exit → Act → World → Prop} (hgd : o.guard = none) (sl x : Operand)
    (ho : o.op = .call { callee := .builtin .append, args := #[sl, x], argTypes := #[41, 41] })
    (base : Nat) (v : Value) (xs ys : List Nat) (hs : a.eval sl = v) (hown : OwnL 5 .u8 w base v xs) (ax : Option Addr) (m c : Nat) (hx : a.eval x = .slice ax m c)
    (hrow : RowL .u8 w ax m ys) (hnil : ax = none → m = 0 ∧ c = 0)
    (hl : xs.length + m ≤ 140737488355328) (hb : base ≤ w.heap.size)
    (h : ∀ v' w', OwnL 5 .u8 w' base v' (xs ++ ys) → Below base w w' → Kept w w' → wpList Try.prog ops Q rest (a.put o.dst v') w') :
    wpList Try.prog ops Q (o :: rest) a w := by
  obtain ⟨i0, hi, hz0, hz1, hz2⟩ := info_parts numT8.1
  obtain ⟨hyl, hrow⟩ := hrow
  cases ax with
  | none =>
    obtain ⟨rfl, rfl⟩ := hnil rfl
    have hys : ys = [] := List.eq_nil_of_length_eq_zero hyl
    subst hys
    refine wpList_append_own_none hgd sl x 41 ho base 5 i0 1 numT8.2 hi v xs.length (xs.map (encV .u8)) hs hown hx ?_
    exact h v w (by rw [List.append_nil]; exact hown) (Below.refl _ _) (Kept.refl _)
  | some ad =>
    refine wpList_append_own _ hgd sl x 41 ho base 5 i0 (.int .u8 0) 1 1 numT8.2 hi hz0 hz1 hz2 rfl (by decide) v xs.length (xs.map (encV .u8)) hs hown ad m c (ys.map (encV .u8)) hx (by simp; omega) ?_ ?_ (by unfold maxLen; omega) (by omega) hb ?_
    · intro j u hj
      have hj' : j < ys.length := by have := (List.getElem?_eq_some_iff.1 hj).1; simpa using this
      rcases hrow with h0 | ⟨b, off, hae, -, hcell⟩
      · omega
      · cases hae
        have hp : (⟨b, off, none⟩ : Addr).add j = ⟨b, off + j, none⟩ := by unfold Addr.add; split <;> simp_all
        rw [hp, hcell j (by omega)]
        rw [List.getElem?_map, List.getElem?_eq_getElem hj'] at hj
        simp at hj
        rw [← hj]
        simp [hj', encV]
    · intro u hu
      obtain ⟨z, _, rfl⟩ := List.mem_map.1 hu
      rfl
    · intro v' w' h1 h2 _
      refine h v' w' ?_ (Below.grown (Below.refl _ _) h2 hb (fun j hj => (hown.lt j hj).1)) ?_
      · unfold OwnL
        have e : (xs ++ ys).length = xs.length + m := by simp; omega
        rw [e, List.map_append]
        exact h1
      · intro k cs t fr hk n1 n2
        refine h2.block k (Array.getElem?_eq_some_iff.1 hk).1 (fun e => n1 ?_)
        obtain ⟨-, ⟨rfl, -⟩ | ⟨g, cap, cur, rfl, -, hbk, -⟩⟩ := hown
        · cases e
        · cases e
          rw [hk] at hbk
          cases hbk
          rfl
theorem new_any (w : World) : Calls Try.prog 8 #[] w fun e w' => e = .returned (.pointer (some ⟨w.heap.size, 0, none⟩)) ∧ WAt w' w.heap.size [] ∧ Below w.heap.size w w' := by
  go_enter Try.func8, Try.ntmps8
  go_wp2
  go_ret
  refine ⟨rfl, ⟨_, heap_alloc_last w _, World.ownsRow_nil _ _ _ _, Byt.nil⟩, by go_grown⟩
theorem add_nil (w : World) (v : Value) : Calls Try.prog 35 #[.pointer none, v] w fun e w' => e = .returned (.pointer none) ∧ w' = w := by
  go_enter Try.func35, Try.ntmps35
  go_wp2
  go_ret
  exact ⟨rfl, rfl⟩
theorem add_K (w : World) (g : Nat) (xs ys : List Nat) (hW : WAt w g xs) (hy : Byt ys) (ax : Option Addr) (m c : Nat) (hrow : RowL .u8 w ax m ys) (hnil : ax = none → m = 0 ∧ c = 0) (hl : xs.length + m ≤ 140737488355328) :
    Calls Try.prog 35 #[.pointer (some ⟨g, 0, none⟩), .slice ax m c] w fun e w' => e = .returned (.pointer (some ⟨g, 0, none⟩)) ∧ WAt w' g (xs ++ ys) ∧ Below g w w' ∧ Kept w w' := by
  have hlt := hW.lt
  obtain ⟨v, h1, h2, h3⟩ := hW
  have hc : w.cell? ⟨g, 0, none⟩ = some v := by rw [cell_of_row w g 0 _ _ _ h1]; rfl
  have hf : w.frozen? ⟨g, 0, none⟩ = false := frozen_of_row w g 0 _ _ h1
  go_enter Try.func35, Try.ntmps35
  go_wp2_with (first
    | (at_builtin; refine append_numsK _ rfl (.tmp 11) (.tmp 12) rfl (g + 1) _ xs ys rfl h2 ax m c rfl hrow hnil (by omega) (by omega) ?_; intro v' w1 hown' hb' hk'; obtain ⟨a1, c1, hv1, -⟩ := hown'.row; subst hv1; rw [List.length_append] at hown'; have k1 := (hb'.block g (by omega)).trans h1; have k2 : w1.frozen? ⟨g, 0, none⟩ = false := frozen_of_row w1 g 0 _ _ k1; have k3 : w1.cell? ⟨g, 0, none⟩ = some v := (by rw [cell_of_row w1 g 0 _ _ _ k1]; rfl)))
  go_ret
  refine ⟨rfl, ⟨.slice a1 (xs.length + ys.length) c1, ?_, ?_, h3.app hy⟩, ?_, hk'.trans (Kept.set k1 0 _)⟩
  · simp [World.setCell, Array.getElem?_modify, k1]
  · exact owns_other hown' (fun b hb => (Below.heap_setCell w1 ⟨g, 0, none⟩ _ b (by have := own_ge hown' hb; show b ≠ g; omega)))
  · exact (hb'.mono (Nat.le_succ g)).setCell (p := ⟨g, 0, none⟩) (Nat.le_refl _) _
theorem add_any (w : World) (g : Nat) (xs ys : List Nat) (hW : WAt w g xs) (hy : Byt ys) (ax : Option Addr) (m c : Nat) (hrow : RowL .u8 w ax m ys) (hnil : ax = none → m = 0 ∧ c = 0) (hl : xs.length + m ≤ 140737488355328) :
    Calls Try.prog 35 #[.pointer (some ⟨g, 0, none⟩), .slice ax m c] w fun e w' => e = .returned (.pointer (some ⟨g, 0, none⟩)) ∧ WAt w' g (xs ++ ys) ∧ Below g w w' :=
  (add_K w g xs ys hW hy ax m c hrow hnil hl).mono fun _ _ ⟨h1, h2, h3, _⟩ => ⟨h1, h2, h3⟩
theorem row_of_made {w : World} {a : Option Addr} {n : Nat} {xs : List Nat} {ys : List Int} (h : Made w a n ys) (he : toI xs = ys) : RowL .u8 w a n xs ∧ (a = none → n = 0) := by
  subst he
  obtain ⟨h1, h2⟩ := h
  rw [toI_len] at h1
  refine ⟨⟨h1, ?_⟩, ?_⟩
  · rcases h2 with ⟨_, h2⟩ | ⟨b, off, ha, hlt, hc⟩
    · exact .inl h2
    · exact .inr ⟨b, off, ha, hlt, fun i hi => by rw [hc i hi, toI_getD]⟩
  · rcases h2 with ⟨_, h2⟩ | ⟨b, off, ha, hlt, hc⟩
    · exact fun _ => h2
    · intro e; rw [e] at ha; cases ha
/-- What bits.Pack answers, by numbers that are not below 0. -/
theorem packN_any (n : Nat) (w : World) (hn : n ≤ 18446744073709551615) :
    Calls Try.prog 36 #[.int .u64 (n : Nat)] w fun e w' => ∃ a cap, e = .returned (.slice (some a) (pkN n).length cap) ∧ RowL .u8 w' (some a) (pkN n).length (pkN n) ∧ Below w.heap.size w w' := by
  refine (pack_all (n : Int) w (by omega) (by omega)).mono ?_
  rintro e w' ⟨a, cap, rfl, hm, hb⟩
  obtain ⟨h1, h2⟩ := row_of_made hm (toI_pkN n hn)
  have hl : (pkN n).length = (pk 9 (n : Int)).length := by unfold pkN; rw [List.length_map]
  have := (pkN_len n).1
  cases a with
  | none => have := h2 rfl; omega
  | some a => rw [← hl] at h1; exact ⟨a, cap, by rw [hl], h1, hb⟩
theorem rpackN_any (n : Nat) (w : World) (hn : n ≤ 18446744073709551615) :
    Calls Try.prog 37 #[.int .u64 (n : Nat)] w fun e w' => ∃ a cap, e = .returned (.slice (some a) (pkN n).length cap) ∧ RowL .u8 w' (some a) (pkN n).length (pkN n) ∧ Below w.heap.size w w' := by
  refine (rpack_all (n : Int) w (by omega) (by omega)).mono ?_
  rintro e w' ⟨a, cap, rfl, hm, hb⟩
  obtain ⟨h1, h2⟩ := row_of_made hm (toI_pkN n hn)
  have hl : (pkN n).length = (pk 9 (n : Int)).length := by unfold pkN; rw [List.length_map]
  have := (pkN_len n).1
  cases a with
  | none => have := h2 rfl; omega
  | some a => rw [← hl] at h1; exact ⟨a, cap, by rw [hl], h1, hb⟩
theorem wnum_K (w : World) (g n : Nat) (xs : List Nat) (hW : WAt w g xs) (hn : n ≤ 18446744073709551615) (hl : xs.length ≤ 140737488355000) :
    Calls Try.prog 9 #[.pointer (some ⟨g, 0, none⟩), .int .u64 (n : Nat)] w fun e w' => e = .returned (.pointer (some ⟨g, 0, none⟩)) ∧ WAt w' g (xs ++ pkN n) ∧ Below g w w' ∧ Kept w w' := by
  go_enter Try.func9, Try.ntmps9
  go_wp2_with fail
  refine (packN_any n w hn).mono ?_
  rintro e w1 ⟨a, cap, rfl, hr, hb⟩
  go_wp2_with fail
  have h10 := (pkN_len n).2
  refine (add_K w1 g xs (pkN n) (hW.below hb) (pkN_byt n hn) (some a) _ cap hr (by simp) (by omega)).mono ?_
  rintro e w2 ⟨rfl, hW2, hb2, hk2⟩
  go_wp2_with fail
  go_ret
  exact ⟨rfl, hW2, (hb.mono (by have := hW.lt; omega)).trans hb2, (Kept.of hb).trans hk2⟩
theorem wnum_any (w : World) (g n : Nat) (xs : List Nat) (hW : WAt w g xs) (hn : n ≤ 18446744073709551615) (hl : xs.length ≤ 140737488355000) :
    Calls Try.prog 9 #[.pointer (some ⟨g, 0, none⟩), .int .u64 (n : Nat)] w fun e w' => e = .returned (.pointer (some ⟨g, 0, none⟩)) ∧ WAt w' g (xs ++ pkN n) ∧ Below g w w' :=
  (wnum_K w g n xs hW hn hl).mono fun _ _ ⟨h1, h2, h3, _⟩ => ⟨h1, h2, h3⟩
theorem wint_K (w : World) (g : Nat) (a : Int) (xs : List Nat) (hW : WAt w g xs) (a0 : -9223372036854775808 ≤ a) (a1 : a ≤ 9223372036854775807) (hl : xs.length ≤ 140737488355000) :
    Calls Try.prog 11 #[.pointer (some ⟨g, 0, none⟩), .int .i64 a] w fun e w' => e = .returned (.pointer (some ⟨g, 0, none⟩)) ∧ WAt w' g (xs ++ pkN (zigN a)) ∧ Below g w w' ∧ Kept w w' := by
  obtain ⟨z0, z1⟩ := zigN_le a a0 a1
  have HZ := zig_any a w a0 a1
  rw [← z1] at HZ
  generalize zigN a = z at *
  clear z1
  go_enter Try.func11, Try.ntmps11
  go_wp2_with fail
  refine HZ.mono ?_
  rintro e w1 ⟨rfl, rfl⟩
  go_wp2_with fail
  refine (wnum_K w1 g _ xs hW z0 hl).mono ?_
  rintro e w2 ⟨rfl, hW2, hb2, hk2⟩
  go_wp2_with fail
  go_ret
  exact ⟨rfl, hW2, hb2, hk2⟩
theorem wint_any (w : World) (g : Nat) (a : Int) (xs : List Nat) (hW : WAt w g xs) (a0 : -9223372036854775808 ≤ a) (a1 : a ≤ 9223372036854775807) (hl : xs.length ≤ 140737488355000) :
    Calls Try.prog 11 #[.pointer (some ⟨g, 0, none⟩), .int .i64 a] w fun e w' => e = .returned (.pointer (some ⟨g, 0, none⟩)) ∧ WAt w' g (xs ++ pkN (zigN a)) ∧ Below g w w' :=
  (wint_K w g a xs hW a0 a1 hl).mono fun _ _ ⟨h1, h2, h3, _⟩ => ⟨h1, h2, h3⟩
theorem wflag_K (w : World) (g : Nat) (b : Bool) (xs : List Nat) (hW : WAt w g xs) (hl : xs.length ≤ 140737488355000) :
    Calls Try.prog 13 #[.pointer (some ⟨g, 0, none⟩), .bool b] w fun e w' => e = .returned (.pointer (some ⟨g, 0, none⟩)) ∧ WAt w' g (xs ++ flagN b) ∧ Below g w w' ∧ Kept w w' := by
  have hlt := hW.lt
  have hr : ∀ c : Nat, RowL .u8 (w.alloc (.cells #[.int .u8 (c : Nat)] 5)) (some ⟨w.heap.size, 0, none⟩) 1 [c] := fun c => (Blk.new w 5 .u8 [c]).row
  have hb0 : ∀ c : Value, Below w.heap.size w (w.alloc (.cells #[c] 5)) := fun c => below_new w _
  go_enter Try.func13, Try.ntmps13
  cases b
  · go_wp2_with fail
    refine (add_K _ g xs [0] (hW.below (hb0 _)) (by intro c hc; simp at hc; subst hc; decide) (some ⟨w.heap.size, 0, none⟩) 1 1 (hr 0) (by simp) (by omega)).mono ?_
    rintro e w2 ⟨rfl, hW2, hb2, hk2⟩
    go_wp2_with fail
    go_ret
    exact ⟨rfl, hW2, ((hb0 _).mono (by omega)).trans hb2, (Kept.of (hb0 _)).trans hk2⟩
  · go_wp2_with fail
    refine (add_K _ g xs [1] (hW.below (hb0 _)) (by intro c hc; simp at hc; subst hc; decide) (some ⟨w.heap.size, 0, none⟩) 1 1 (hr 1) (by simp) (by omega)).mono ?_
    rintro e w2 ⟨rfl, hW2, hb2, hk2⟩
    go_wp2_with fail
    go_ret
    exact ⟨rfl, hW2, ((hb0 _).mono (by omega)).trans hb2, (Kept.of (hb0 _)).trans hk2⟩
theorem wflag_any (w : World) (g : Nat) (b : Bool) (xs : List Nat) (hW : WAt w g xs) (hl : xs.length ≤ 140737488355000) :
    Calls Try.prog 13 #[.pointer (some ⟨g, 0, none⟩), .bool b] w fun e w' => e = .returned (.pointer (some ⟨g, 0, none⟩)) ∧ WAt w' g (xs ++ flagN b) ∧ Below g w w' :=
  (wflag_K w g b xs hW hl).mono fun _ _ ⟨h1, h2, h3, _⟩ => ⟨h1, h2, h3⟩
end Go.Proofs.Ytngojkleehgbaaa
