/-
  The program's cabinet with a file written anew, or one more; a change's two ends.
-/
import Derived.Test.YtlhmeebbdjiokaaCabPEasy
namespace Go.Proofs.Ytlhmeebbdjiokaa
open Go.ChangeShapes Go.WideShapes Go.ChangeAt Go.RowKit Go.Maps Go.MapKept Go.ChangeMaps
set_option linter.unusedVariables false
set_option linter.unusedSimpArgs false
section
variable {w w2 w3 : World} {g : Nat} {O : Nat → Prop} {c c' : CabM} {tk : Nat} {A : Nat → Prop} {fa : Nat → Nat} {dv : Nat → Value} {mn ml : Option Nat} {vs : Value}
theorem cells_ne {b : Nat} {cs ds : Array Value} {t u : TypeId} (h : w.heap[b]? = some (.cells cs t (0, 0))) (h' : w.heap[b]? = some (.cells ds u (0, 0))) : t = u := by
  rw [h] at h'
  injection h' with h'
  injection h' with _ h'
theorem file_set2 (fs : List (ByteArray × Nat)) (n i : Nat) (f : ByteArray × Nat) (h : n < fs.length) : (fs.set n f).getD i (ByteArray.empty, 0) = if i = n then f else fs.getD i (ByteArray.empty, 0) := file_set fs n i f h
/-- One file is another one. -/
theorem ProgRaw.refile (h : ProgRaw w g O c tk A fa dv mn ml vs) {n : Nat} (hn : A n) {v' : Value} {f' : ByteArray × Nat} (hfile : FileAt w3 (fa n) v' f') (hap : Apart (fun k => k = fa n ∨ (dv n).ownBlock = some k) w w3) (hnew : ∀ k, v'.ownBlock = some k → (dv n).ownBlock = some k ∨ w.heap.size ≤ k)
    (hlt : n < c.files.length) (e1 : c'.files = c.files.set n f') (e2 : c'.now = c.now) (e3 : c'.sure = c.sure) (e4 : c'.wait = c.wait) (e5 : c'.quota = c.quota) (e6 : c'.after = c.after) (e7 : c'.timed = c.timed) (e8 : c'.off = c.off) :
    ProgRaw w3 g (fun k => O k ∨ v'.ownBlock = some k) c' tk A fa (fun i => if i = n then v' else dv i) mn ml vs ∧ Apart O w w3 := by
  have hfn := h.file n hn
  have hk : ∀ k, O k → k ≠ fa n → (dv n).ownBlock ≠ some k → w3.heap[k]? = w.heap[k]? := fun k k1 k2 k3 => hap.block k (h.lt k k1) (fun e => by rcases e with e | e; exact k2 e; exact k3 e)
  have hdt : ∀ {k : Nat} {cs : Array Value} {t : TypeId}, w.heap[k]? = some (.cells cs t (0, 0)) → t ≠ 5 → (dv n).ownBlock ≠ some k := by
    intro k cs t h1 ht e
    obtain ⟨cur, h2⟩ := owns_type hfn.2 e
    exact ht (cells_ne h1 h2)
  have hft : ∀ {k : Nat} {cs : Array Value} {t : TypeId}, w.heap[k]? = some (.cells cs t (0, 0)) → t ≠ 74 → k ≠ fa n := by
    intro k cs t h1 ht e
    rw [e] at h1
    exact ht (cells_ne h1 hfn.1)
  have hmap : ∀ {m : Option Nat} {l : List (ByteArray × Nat)}, MapF w m l fa → (∀ b, m = some b → O b) → MapF w3 m l fa := by
    intro m l hm ho
    refine hm.keep fun b e => hk b (ho b e) (fun e' => ?_) (fun e' => ?_)
    · exact (h.fileMap hm n hn).1 (by rw [e, e'])
    · exact (h.fileMap hm n hn).2 b e' e
  refine ⟨⟨?_, by rw [e2]; exact hmap h.mapNow h.on, by rw [e3]; exact hmap h.mapLast h.ol, ?_, ?_, h.inj, ?_, h.two, .inl h.og, fun b e => .inl (h.on b e), fun b e => .inl (h.ol b e), fun b e => .inl (h.os b e), ?_, ?_⟩, hap.1, hap.2.1, hap.2.2.1, hap.size, fun k k1 k2 => hap.block k k1 (fun e => ?_)⟩
  · rw [hk g h.og (hft h.cabBlock (by decide)) (hdt h.cabBlock (by decide)), h.cabBlock]
    unfold cabCellsP
    rw [e5, e6, e7, e8]
  · rw [e4]
    refine owns_keep h.since fun b e => ?_
    obtain ⟨cur, hb⟩ := owns_type h.since e
    exact hk b (h.os b e) (hft hb (by decide)) (hdt hb (by decide))
  · intro i hi
    unfold fileC
    rw [e1, file_set _ _ _ _ hlt]
    dsimp only
    by_cases hin : i = n
    · subst hin
      rw [if_pos rfl, if_pos rfl]
      exact hfile
    · rw [if_neg hin, if_neg hin]
      have hfi := h.file i hi
      refine hfi.keep (hk _ (h.of i hi).1 (fun e => hin (h.inj i n hi hn e)) (hdt hfi.1 (by decide))) (fun k e => hk k ((h.of i hi).2 k e) ?_ (fun e' => hin (h.injD i n k hi hn e e')))
      obtain ⟨cur, hb⟩ := owns_type hfi.2 e
      exact hft hb (by decide)
  · intro i j b hi hj
    have hno : ∀ k, A k → (dv k).ownBlock = some b → v'.ownBlock = some b → k = n := fun k hka hkb hvb => by
      rcases hnew b hvb with e | e
      · exact h.injD k n b hka hn hkb e
      · have := h.lt b ((h.of k hka).2 b hkb)
        omega
    dsimp only
    by_cases h1 : i = n
    · by_cases h2 : j = n
      · intro _ _; rw [h1, h2]
      · rw [if_pos h1, if_neg h2]
        intro ha hb
        exact absurd (hno j hj hb ha) h2
    · by_cases h2 : j = n
      · rw [if_neg h1, if_pos h2]
        intro ha hb
        exact absurd (hno i hi ha hb) h1
      · rw [if_neg h1, if_neg h2]
        exact h.injD i j b hi hj
  · intro i hi
    refine ⟨.inl (h.of i hi).1, fun b => ?_⟩
    dsimp only
    by_cases h1 : i = n
    · rw [if_pos h1]; exact fun e => .inr e
    · rw [if_neg h1]; exact fun e => .inl ((h.of i hi).2 b e)
  · rintro b (e | e)
    · exact Nat.lt_of_lt_of_le (h.lt b e) hap.size
    · exact (World.ownsRow.lt hfile.2 b e).2
  · rcases e with e | e
    · exact k2 (e ▸ (h.of n hn).1)
    · exact k2 ((h.of n hn).2 k e)
/-- One file more: a new block. -/
theorem ProgRaw.created (h : ProgRaw w g O c tk A fa dv mn ml vs) (hA : ∀ i, A i → i < c.files.length) (hnow : ∀ e ∈ c.now, A e.2) (hsure : ∀ e ∈ c.sure, A e.2) (hwait : ∀ x ∈ c.wait, A x.2.2) (e1 : c'.files = c.files ++ [(ByteArray.empty, 0)]) (e2 : c'.now = c.now) (e3 : c'.sure = c.sure) (e4 : c'.wait = c.wait) (e5 : c'.quota = c.quota) (e6 : c'.after = c.after) (e7 : c'.timed = c.timed) (e8 : c'.off = c.off) :
    ProgRaw (w.alloc (.cells #[.slice none 0 0, .int .i64 0] 74)) g (fun k => O k ∨ k = w.heap.size) c' tk (fun i => A i ∨ i = c.files.length) (fun i => if i = c.files.length then w.heap.size else fa i) (fun i => if i = c.files.length then .slice none 0 0 else dv i) mn ml vs := by
  have hb := h.below (below_new w (.cells #[.slice none 0 0, .int .i64 0] 74))
  have hag : ∀ i, A i → fa i = if i = c.files.length then w.heap.size else fa i := fun i hi => by rw [if_neg (by have := hA i hi; omega)]
  have hlt : ∀ i, A i → fa i ≠ w.heap.size := fun i hi e => by have := h.lt _ (h.of i hi).1; omega
  refine ⟨?_, by rw [e2]; exact hb.mapNow.agree (fun e he => hag _ (hnow e he)), by rw [e3]; exact hb.mapLast.agree (fun e he => hag _ (hsure e he)), ?_, ?_, ?_, ?_, h.two, .inl h.og, fun b e => .inl (h.on b e), fun b e => .inl (h.ol b e), fun b e => .inl (h.os b e), ?_, ?_⟩
  · rw [hb.cabBlock]
    unfold cabCellsP
    rw [e5, e6, e7, e8]
  · rw [e4]
    have := hb.since
    unfold OwnG at this ⊢
    rw [← encGs_agree (fun x hx => hag _ (hwait x hx))]
    exact this
  · intro i hi
    unfold fileC
    rw [e1]
    dsimp only at hi ⊢
    by_cases hin : i = c.files.length
    · rw [if_pos hin, if_pos hin, List.getD_eq_getElem?_getD, List.getElem?_append_right (by omega), hin, Nat.sub_self]
      exact ⟨heap_alloc_last w _, rfl, .inl ⟨rfl, rfl⟩⟩
    · rw [if_neg hin, if_neg hin]
      have hi' : A i := by rcases hi with hi | hi; exact hi; exact absurd hi hin
      have := hb.file i hi'
      unfold fileC at this
      rw [List.getD_eq_getElem?_getD, List.getElem?_append_left (hA i hi'), ← List.getD_eq_getElem?_getD]
      exact this
  · intro i j hi hj
    dsimp only at hi hj ⊢
    by_cases h1 : i = c.files.length
    · by_cases h2 : j = c.files.length
      · intro _; rw [h1, h2]
      · rw [if_pos h1, if_neg h2]
        intro e
        rcases hj with hj | hj
        · exact absurd e.symm (hlt j hj)
        · exact absurd hj h2
    · by_cases h2 : j = c.files.length
      · rw [if_neg h1, if_pos h2]
        intro e
        rcases hi with hi | hi
        · exact absurd e (hlt i hi)
        · exact absurd hi h1
      · rw [if_neg h1, if_neg h2]
        rcases hi with hi | hi
        · rcases hj with hj | hj
          · exact h.inj i j hi hj
          · exact absurd hj h2
        · exact absurd hi h1
  · intro i j b hi hj
    dsimp only at hi hj ⊢
    by_cases h1 : i = c.files.length
    · rw [if_pos h1]; intro e; cases e
    · by_cases h2 : j = c.files.length
      · rw [if_pos h2]; intro _ e; cases e
      · rw [if_neg h1, if_neg h2]
        rcases hi with hi | hi
        · rcases hj with hj | hj
          · exact h.injD i j b hi hj
          · exact absurd hj h2
        · exact absurd hi h1
  · intro i hi
    dsimp only at hi ⊢
    by_cases h1 : i = c.files.length
    · rw [if_pos h1, if_pos h1]
      exact ⟨.inr rfl, fun b e => by cases e⟩
    · rw [if_neg h1, if_neg h1]
      rcases hi with hi | hi
      · exact ⟨.inl (h.of i hi).1, fun b e => .inl ((h.of i hi).2 b e)⟩
      · exact absurd hi h1
  · rintro b (e | e)
    · exact hb.lt b e
    · rw [e]; simp
end
/-! A change's two ends. -/
def ProgIs (w : World) (g : Nat) (O : Nat → Prop) (c : CabM) (fa : Nat → Nat) (dv : Nat → Value) (mn ml : Option Nat) (vs : Value) : Prop := ProgRaw w g O c (usedC c) (fun i => takenC c i = true) fa dv mn ml vs
theorem ProgIs.at {w : World} {g : Nat} {O : Nat → Prop} {c : CabM} {fa : Nat → Nat} {dv : Nat → Value} {mn ml : Option Nat} {vs : Value} (h : ProgIs w g O c fa dv mn ml vs) (ho : OrdC c) : ProgAt w g O c := ⟨fa, dv, mn, ml, vs, h, ho⟩
theorem ord_power {c : CabM} (h : OrdC c) : OrdC (powerC c) := h.lists (power_lists c).1 (power_lists c).2.2.2.1 (power_lists c).2.1
theorem pgoes_is (w : World) (g : Nat) (O : Nat → Prop) (c : CabM) (fa : Nat → Nat) (dv : Nat → Value) (mn ml : Option Nat) (vs : Value) (h : ProgIs w g O c fa dv mn ml vs) (ht : TimeC c) :
    Calls Try.prog 26 #[.pointer (some ⟨g, 0, none⟩)] w fun e w' => e = .returned (.bool (decide (powerE c = 11))) ∧ ProgIs w' g O (powerC c) fa dv mn ml vs ∧ Apart O w w' := by
  refine (pgoes_any w g O c _ _ fa dv mn ml vs h ht).mono fun e w' ⟨he, hr, ha⟩ => ⟨he, ?_, ha⟩
  unfold ProgIs
  rw [used_power]
  have : (fun i => takenC (powerC c) i = true) = fun i => takenC c i = true := by funext i; rw [taken_power]
  rw [this]
  exact hr
theorem post_self {w : World} {g : Nat} {O : Nat → Prop} {c : CabM} (h : ProgAt w g O c) : PostP ProgAt w g O c w := ⟨⟨O, h, fun _ e => .inl e⟩, Apart.refl _ _⟩
theorem post_same {w w1 : World} {g : Nat} {O : Nat → Prop} {c : CabM} (h : ProgAt w1 g O c) (ha : Apart O w w1) : PostP ProgAt w g O c w1 := ⟨⟨O, h, fun _ e => .inl e⟩, ha⟩
theorem post_from {w w1 w2 : World} {g : Nat} {O : Nat → Prop} {c : CabM} (ha : Apart O w w1) (h : PostP ProgAt w1 g O c w2) : PostP ProgAt w g O c w2 := by
  obtain ⟨⟨O', hc, hO⟩, ha2⟩ := h
  refine ⟨⟨O', hc, fun b e => ?_⟩, ha.same ha2⟩
  rcases hO b e with e | e
  · exact .inl e
  · exact .inr (Nat.le_trans ha.size e)
theorem used_same {c d : CabM} (h1 : d.files = c.files) (h2 : ∀ i, takenC d i = takenC c i) : usedC d = usedC c := by
  unfold usedC
  rw [h1]
  exact sum_agree _ _ _ (fun i _ => h2 i)
theorem taken_names (c : CabM) (x : ByteArray × ByteArray × Nat) (i : Nat) : takenC (namesC c x) i = (takenC c i || x.2.2 == i) := by
  show (c.sure.any (fun e => e.2 == i) || (c.wait ++ [x]).any (fun e => e.2.2 == i)) = ((c.sure.any (fun e => e.2 == i) || c.wait.any (fun e => e.2.2 == i)) || x.2.2 == i)
  rw [List.any_append, Bool.or_assoc]
  simp
theorem taken_move {c : CabM} {x : ByteArray × ByteArray × Nat} (hx : takenC c x.2.2 = true) (i : Nat) : takenC (namesC c x) i = takenC c i := by
  rw [taken_names]
  cases hi : (x.2.2 == i) with
  | false => rw [Bool.or_false]
  | true => rw [← beq_iff_eq.1 hi, hx]; rfl
theorem post_refile {w w3 : World} {g : Nat} {O O' : Nat → Prop} {c : CabM} {fa : Nat → Nat} {dv : Nat → Value} {mn ml : Option Nat} {vs : Value} (h : ProgRaw w3 g O' c (usedC c) (fun i => takenC c i = true) fa dv mn ml vs) (ha : Apart O w w3) (ho : OrdC c) (hO : ∀ b, O' b → O b ∨ w.heap.size ≤ b) : PostP ProgAt w g O c w3 :=
  ⟨⟨O', ⟨fa, dv, mn, ml, vs, h, ho⟩, hO⟩, ha⟩
/-- A change of names that was recorded. -/
theorem post_names {w w2 : World} {g : Nat} {O : Nat → Prop} {c : CabM} {fa : Nat → Nat} {dv : Nat → Value} {x : ByteArray × ByteArray × Nat} (h : RawPost w g O (namesC c x) (usedC c) (fun i => takenC c i = true) fa dv w2) (hx : takenC c x.2.2 = true) (ho : OrdC (namesC c x)) : PostP ProgAt w g O (namesC c x) w2 := by
  obtain ⟨O', mn, ml, vs, hr, hO, ha⟩ := h
  refine ⟨⟨O', ⟨fa, dv, mn, ml, vs, ?_, ho⟩, hO⟩, ha⟩
  rw [used_same (c := c) (d := namesC c x) rfl (taken_move hx)]
  have : (fun i => takenC (namesC c x) i = true) = fun i => takenC c i = true := by funext i; rw [taken_move hx]
  rw [this]
  exact hr
end Go.Proofs.Ytlhmeebbdjiokaa
