/-
  Tags in order, and others over them: plain mathematics.
-/
import Derived.Test.YtbfgkogmojnilaaDoorTagMerge
namespace Go.Proofs.YtbfgkogmojnilaaDoor
set_option linter.unusedVariables false
set_option linter.unusedSimpArgs false
theorem list_tri : ∀ a b : List Nat, a < b ∨ a = b ∨ b < a
  | [], [] => .inr (.inl rfl)
  | [], _ :: _ => .inl (by simp)
  | _ :: _, [] => .inr (.inr (by simp))
  | x :: a, y :: b => by
    rcases Nat.lt_trichotomy x y with h | h | h
    · exact .inl (List.cons_lt_cons_iff.2 (.inl h))
    · subst h
      rcases list_tri a b with h | h | h
      · exact .inl (List.cons_lt_cons_iff.2 (.inr ⟨rfl, h⟩))
      · exact .inr (.inl (by rw [h]))
      · exact .inr (.inr (List.cons_lt_cons_iff.2 (.inr ⟨rfl, h⟩)))
    · exact .inr (.inr (List.cons_lt_cons_iff.2 (.inl h)))
theorem ltB_iff (s t : ByteArray) : ltB s t = true ↔ txt s < txt t := by unfold ltB; rw [str_less, decide_eq_true_eq]
theorem not_le {s t : ByteArray} (h : leB s t = false) : txt t < txt s := by
  unfold leB at h
  rw [Bool.or_eq_false_iff, str_less, str_eq, decide_eq_false_iff_not, decide_eq_false_iff_not] at h
  rcases list_tri (txt s) (txt t) with h' | h' | h'
  · exact absurd h' h.1
  · exact absurd h' h.2
  · exact h'
theorem le_not {s t : ByteArray} (h : txt t < txt s) : leB s t = false := by
  unfold leB
  rw [Bool.or_eq_false_iff, str_less, str_eq, decide_eq_false_iff_not, decide_eq_false_iff_not]
  exact ⟨fun h' => List.lt_irrefl _ (List.lt_trans h h'), fun e => by rw [e] at h; exact List.lt_irrefl _ h⟩
/-- Names that rise. -/
def Rise (l : List (ByteArray × ByteArray)) : Prop := l.Pairwise fun a b => txt a.1 < txt b.1
def Dist (l : List (ByteArray × ByteArray)) : Prop := l.Pairwise fun a b => a.1 ≠ b.1
theorem Rise.dist {l : List (ByteArray × ByteArray)} (h : Rise l) : Dist l := List.Pairwise.imp (fun {a b} h e => by rw [e] at h; exact List.lt_irrefl _ h) h
theorem soundF_rise : ∀ (ts : List (ByteArray × ByteArray)) (q : Option ByteArray), soundF q ts = true → Rise ts ∧ ∀ p, q = some p → ∀ t ∈ ts, txt p < txt t.1
  | [], q, _ => ⟨List.Pairwise.nil, fun _ _ _ h => by cases h⟩
  | t :: ts, q, h => by
    have h2 : soundF (some t.1) ts = true ∧ ∀ p, q = some p → txt p < txt t.1 := by
      cases q with
      | none => rw [soundF, Bool.and_eq_true] at h; exact ⟨h.2, fun p e => by cases e⟩
      | some q =>
        rw [soundF, Bool.and_eq_true, Bool.and_eq_true] at h
        refine ⟨h.2, fun p e => ?_⟩
        cases e
        exact not_le (by simpa using h.1.2)
    obtain ⟨i1, i2⟩ := soundF_rise ts _ h2.1
    refine ⟨List.Pairwise.cons (fun u hu => i2 t.1 rfl u hu) i1, fun p e u hu => ?_⟩
    rcases List.mem_cons.1 hu with rfl | hu
    · exact h2.2 p e
    · exact List.lt_trans (h2.2 p e) (i2 t.1 rfl u hu)
theorem sound_rise {ts : List (ByteArray × ByteArray)} (h : soundB ts = true) : Rise ts := by
  unfold soundB at h
  rw [Bool.and_eq_true] at h
  exact (soundF_rise ts none h.2).1
/-- Where a name goes. -/
theorem scan_spec : ∀ (l : List (ByteArray × ByteArray)) (nm : ByteArray) (k p q : Nat), scanB l nm k p = some q →
    (∀ u ∈ l, u.1 ≠ nm) ∧ ((q = p ∧ ∀ u ∈ l, ¬ txt u.1 < txt nm) ∨ (∃ j, j < l.length ∧ q = k + j + 1 ∧ (∃ u, l[j]? = some u ∧ txt u.1 < txt nm) ∧ ∀ u ∈ l.drop (j + 1), ¬ txt u.1 < txt nm))
  | [], nm, k, p, q, h => by
    simp [scanB] at h
    exact ⟨by simp, .inl ⟨h.symm, by simp⟩⟩
  | o :: l, nm, k, p, q, h => by
    rw [scanB] at h
    by_cases he : eqB o.1 nm = true
    · rw [if_pos he] at h; cases h
    · rw [if_neg he] at h
      have hne : o.1 ≠ nm := fun e => he ((eqB_iff _ _).2 e)
      obtain ⟨i1, i2⟩ := scan_spec l nm (k + 1) _ q h
      refine ⟨fun u hu => ?_, ?_⟩
      · rcases List.mem_cons.1 hu with rfl | hu
        · exact hne
        · exact i1 u hu
      · rcases i2 with ⟨e, i3⟩ | ⟨j, j1, j2, j3, j4⟩
        · by_cases hl : ltB o.1 nm = true
          · rw [if_pos hl] at e
            exact .inr ⟨0, by simp, by omega, ⟨o, rfl, (ltB_iff _ _).1 hl⟩, i3⟩
          · rw [if_neg hl] at e
            refine .inl ⟨e, fun u hu => ?_⟩
            rcases List.mem_cons.1 hu with rfl | hu
            · exact fun h' => hl ((ltB_iff _ _).2 h')
            · exact i3 u hu
        · exact .inr ⟨j + 1, by simp; omega, by omega, j3, j4⟩
theorem scan_parts {l : List (ByteArray × ByteArray)} {nm : ByteArray} {q : Nat} (hr : Rise l) (h : scanB l nm 0 0 = some q) : (∀ u ∈ l.take q, txt u.1 < txt nm) ∧ ∀ u ∈ l.drop q, txt nm < txt u.1 := by
  obtain ⟨h1, h2⟩ := scan_spec l nm 0 0 q h
  have great : ∀ u ∈ l, ¬ txt u.1 < txt nm → txt nm < txt u.1 := fun u hu h' => by
    rcases list_tri (txt u.1) (txt nm) with e | e | e
    · exact absurd e h'
    · exact absurd (by rw [← strN_txt u.1, e, strN_txt]) (h1 u hu)
    · exact e
  rcases h2 with ⟨rfl, h3⟩ | ⟨j, j1, j2, ⟨u, hu, hlt⟩, j4⟩
  · exact ⟨by simp, fun u hu => great u (by simpa using hu) (h3 u (by simpa using hu))⟩
  · have hq : q = j + 1 := by omega
    subst hq
    refine ⟨fun v hv => ?_, fun v hv => great v (List.mem_of_mem_drop hv) (j4 v hv)⟩
    obtain ⟨i, hi, rfl⟩ := List.getElem_of_mem hv
    rw [List.length_take] at hi
    rw [List.getElem_take]
    have huj : l[j] = u := by rw [List.getElem?_eq_getElem j1] at hu; exact Option.some.inj hu
    by_cases e : i = j
    · subst e; rw [huj]; exact hlt
    · have := List.pairwise_iff_getElem.1 hr i j (by omega) j1 (by omega)
      rw [huj] at this
      exact List.lt_trans this hlt
theorem make_rise : ∀ (ts out res : List (ByteArray × ByteArray)), Rise out → makeF out ts = some res → Rise res ∧ res.Perm (out ++ ts)
  | [], out, res, hr, h => by
    rw [makeF] at h
    cases h
    exact ⟨hr, by rw [List.append_nil]⟩
  | t :: ts, out, res, hr, h => by
    rw [makeF] at h
    cases hs : scanB out t.1 0 0 with
    | none => rw [hs] at h; cases h
    | some p =>
      rw [hs] at h
      obtain ⟨s1, s2⟩ := scan_parts hr hs
      have hr' : Rise (out.take p ++ [t] ++ out.drop p) := by
        unfold Rise
        rw [List.append_assoc]
        refine List.pairwise_append.2 ⟨hr.sublist (List.take_sublist _ _), List.Pairwise.cons (fun u hu => s2 u hu) (hr.sublist (List.drop_sublist _ _)), fun u hu v hv => ?_⟩
        rcases List.mem_cons.1 hv with rfl | hv
        · exact s1 u hu
        · exact List.lt_trans (s1 u hu) (s2 v hv)
      obtain ⟨i1, i2⟩ := make_rise ts _ res hr' h
      refine ⟨i1, i2.trans ?_⟩
      have e : (out.take p ++ [t] ++ out.drop p).Perm (out ++ [t]) := by
        rw [List.append_assoc]
        have e1 : ([t] ++ out.drop p).Perm (out.drop p ++ [t]) := List.perm_append_comm
        have e2 := e1.append_left (out.take p)
        rw [← List.append_assoc (out.take p) (out.drop p) [t], List.take_append_drop] at e2
        exact e2
      have e3 := e.append_right ts
      rw [List.append_assoc out [t] ts] at e3
      exact e3
theorem scan_some {l : List (ByteArray × ByteArray)} {nm : ByteArray} (h : ∀ u ∈ l, u.1 ≠ nm) : ∀ k p, ∃ q, scanB l nm k p = some q := by
  induction l with
  | nil => intro k p; exact ⟨p, rfl⟩
  | cons o l ih =>
    intro k p
    have hne : ¬ eqB o.1 nm = true := fun e => h o (by simp) ((eqB_iff _ _).1 e)
    rw [scanB, if_neg hne]
    exact ih (fun u hu => h u (by simp [hu])) _ _
theorem make_some : ∀ (ts out : List (ByteArray × ByteArray)), Dist (out ++ ts) → ∃ res, makeF out ts = some res
  | [], out, _ => ⟨out, rfl⟩
  | t :: ts, out, h => by
    have hne : ∀ u ∈ out, u.1 ≠ t.1 := fun u hu => (List.pairwise_append.1 h).2.2 u hu t (by simp)
    obtain ⟨p, hp⟩ := scan_some hne 0 0
    rw [makeF, hp]
    refine make_some ts _ ?_
    have e : (out.take p ++ [t] ++ out.drop p ++ ts).Perm (out ++ t :: ts) := by
      rw [List.append_assoc, List.append_assoc]
      have e1 : ([t] ++ (out.drop p ++ ts)).Perm (out.drop p ++ t :: ts) := by
        rw [List.singleton_append]
        exact List.perm_middle.symm
      have e2 := e1.append_left (out.take p)
      rw [← List.append_assoc (out.take p) (out.drop p), List.take_append_drop] at e2
      exact e2
    exact (List.Perm.pairwise_iff (fun h e => h e.symm) e).2 h
/-- Two lists in order that have the same are equal. -/
theorem rise_same : ∀ (l m : List (ByteArray × ByteArray)), Rise l → Rise m → l.Perm m → l = m
  | [], m, _, _, h => by rw [List.nil_perm.1 h]
  | a :: l, [], _, _, h => by have := h.length_eq; simp at this
  | a :: l, b :: m, hl, hm, h => by
    have hab : a = b := by
      have ha : a ∈ b :: m := h.subset (by simp)
      have hb : b ∈ a :: l := h.symm.subset (by simp)
      rcases List.mem_cons.1 ha with e | ha
      · exact e
      · rcases List.mem_cons.1 hb with e | hb
        · exact e.symm
        · have h1 := (List.pairwise_cons.1 hl).1 b hb
          have h2 := (List.pairwise_cons.1 hm).1 a ha
          exact absurd (List.lt_trans h1 h2) (List.lt_irrefl _)
    subst hab
    rw [rise_same l m (List.pairwise_cons.1 hl).2 (List.pairwise_cons.1 hm).2 ((List.perm_cons a).1 h)]
theorem get_iff : ∀ (l : List (ByteArray × ByteArray)) (nm v : ByteArray), Dist l → (getB l nm = some v ↔ (nm, v) ∈ l)
  | [], nm, v, _ => by simp [getB]
  | t :: l, nm, v, h => by
    rw [getB]
    obtain ⟨h1, h2⟩ := List.pairwise_cons.1 h
    by_cases he : eqB t.1 nm = true
    · have e := (eqB_iff _ _).1 he
      rw [if_pos he]
      constructor
      · intro hv
        cases hv
        rw [← e]
        exact List.mem_cons_self
      · intro hm
        rcases List.mem_cons.1 hm with hm | hm
        · rw [← hm]
        · exact absurd e (h1 _ hm)
    · rw [if_neg he, get_iff l nm v h2]
      constructor
      · exact fun hm => List.mem_cons_of_mem _ hm
      · intro hm
        rcases List.mem_cons.1 hm with hm | hm
        · exact absurd ((eqB_iff _ _).2 (by rw [← hm])) he
        · exact hm
theorem get_none {l : List (ByteArray × ByteArray)} {nm : ByteArray} (h : getB l nm = none) : ∀ u ∈ l, u.1 ≠ nm := by
  induction l with
  | nil => intro u hu; cases hu
  | cons t l ih =>
    rw [getB] at h
    split at h
    · cases h
    · rename_i he
      intro u hu
      rcases List.mem_cons.1 hu with rfl | hu
      · exact fun e => he ((eqB_iff _ _).2 e)
      · exact ih h u hu
theorem rest_iff (b : List (ByteArray × ByteArray)) : ∀ (l : List (ByteArray × ByteArray)) (u : ByteArray × ByteArray), u ∈ restB b l ↔ u ∈ l ∧ getB b u.1 = none
  | [], u => by simp [restB]
  | t :: l, u => by
    rw [restB]
    cases hg : getB b t.1 with
    | none =>
      simp only [List.mem_cons, rest_iff b l u]
      constructor
      · rintro (rfl | h)
        · exact ⟨.inl rfl, hg⟩
        · exact ⟨.inr h.1, h.2⟩
      · rintro ⟨rfl | h, h2⟩
        · exact .inl rfl
        · exact .inr ⟨h, h2⟩
    | some v =>
      simp only [List.mem_cons, rest_iff b l u]
      constructor
      · exact fun h => ⟨.inr h.1, h.2⟩
      · rintro ⟨rfl | h, h2⟩
        · rw [hg] at h2; cases h2
        · exact ⟨h, h2⟩
theorem rest_perm (b : List (ByteArray × ByteArray)) {l m : List (ByteArray × ByteArray)} (h : l.Perm m) : (restB b l).Perm (restB b m) := by
  have e : ∀ l, restB b l = l.filter fun u => (getB b u.1).isNone := by
    intro l
    induction l with
    | nil => rfl
    | cons t l ih =>
      rw [restB, List.filter_cons]
      cases hg : getB b t.1 with
      | none => simp [ih]
      | some v => simp [ih]
  rw [e, e]
  exact h.filter _
theorem rest_app (b l m : List (ByteArray × ByteArray)) : restB b (l ++ m) = restB b l ++ restB b m := by
  induction l with
  | nil => rfl
  | cons t l ih =>
    rw [List.cons_append, restB, restB, ih]
    cases getB b t.1 <;> rfl
theorem rest_own {b : List (ByteArray × ByteArray)} (h : Dist b) : restB b b = [] := by
  apply List.eq_nil_iff_forall_not_mem.2
  intro u hu
  obtain ⟨h1, h2⟩ := (rest_iff b b u).1 hu
  rw [(get_iff b u.1 u.2 h).2 h1] at h2
  cases h2
theorem rest_rest (b l : List (ByteArray × ByteArray)) : restB b (restB b l) = restB b l := by
  induction l with
  | nil => rfl
  | cons t l ih =>
    rw [restB]
    cases hg : getB b t.1 with
    | none => simp only []; rw [restB, hg]; simp only []; rw [ih]
    | some v => exact ih
theorem make_ok {ts m : List (ByteArray × ByteArray)} (h : makeB ts = .ok m) : ts.length ≤ 8 ∧ makeF [] ts = some m ∧ soundB m = true := by
  unfold makeB at h
  split at h
  · cases h
  · rename_i h8
    cases hm : makeF [] ts with
    | none => rw [hm] at h; cases h
    | some out =>
      rw [hm] at h
      simp only [] at h
      split at h
      · rename_i hs
        cases h
        exact ⟨by omega, rfl, hs⟩
      · cases h
/-- What Merge promises. -/
theorem merge_parts {a b m : List (ByteArray × ByteArray)} (h : mergeB a b = .ok m) :
    soundB m = true ∧ withinB b m = true ∧ mergeB m b = .ok m ∧ ∀ nm, getB m nm = match getB b nm with | some v => some v | none => getB a nm := by
  unfold mergeB at h
  split at h
  · rename_i hs
    rw [Bool.and_eq_true] at hs
    obtain ⟨h8, hm, hsm⟩ := make_ok h
    obtain ⟨hr, hp⟩ := make_rise _ [] m List.Pairwise.nil hm
    rw [List.nil_append] at hp
    have da := (sound_rise hs.1).dist
    have db := (sound_rise hs.2).dist
    have dm := hr.dist
    have hget : ∀ nm v, getB m nm = some v ↔ (nm, v) ∈ b ∨ (nm, v) ∈ restB b a := fun nm v => by
      rw [get_iff m nm v dm, hp.mem_iff, List.mem_append]
    refine ⟨hsm, ?_, ?_, fun nm => ?_⟩
    · have : ∀ l : List (ByteArray × ByteArray), (∀ u ∈ l, u ∈ b) → withinB l m = true := by
        intro l
        induction l with
        | nil => intro _; rfl
        | cons u l ih =>
          intro hl
          have : getB m u.1 = some u.2 := (hget u.1 u.2).2 (.inl (hl u (by simp)))
          rw [withinB, this]
          simp only []
          rw [(eqB_iff _ _).2 rfl, Bool.true_and]
          exact ih (fun v hv => hl v (by simp [hv]))
      exact this b (fun u hu => hu)
    · have e : (restB b m).Perm (restB b a) := by
        have := rest_perm b hp
        rw [rest_app, rest_own db, List.nil_append, rest_rest] at this
        exact this
      have e2 : (b ++ restB b m).Perm m := (e.append_left b).trans hp.symm
      have d2 : Dist ([] ++ (b ++ restB b m)) := (List.Perm.pairwise_iff (fun h e => h e.symm) e2).2 dm
      obtain ⟨res, hres⟩ := make_some (b ++ restB b m) [] d2
      obtain ⟨r1, r2⟩ := make_rise _ [] res List.Pairwise.nil hres
      have : res = m := rise_same res m r1 hr (r2.trans e2)
      subst this
      unfold mergeB
      rw [hsm, hs.2]
      show makeB (b ++ restB b res) = _
      unfold makeB
      rw [if_neg (by rw [e2.length_eq, hp.length_eq]; omega), hres]
      simp only []
      rw [hsm]
      rfl
    · cases hb : getB b nm with
      | some v => exact (hget nm v).2 (.inl ((get_iff b nm v db).1 hb))
      | none =>
        simp only []
        cases ha : getB a nm with
        | some v => exact (hget nm v).2 (.inr ((rest_iff b a (nm, v)).2 ⟨(get_iff a nm v da).1 ha, hb⟩))
        | none =>
          cases hg : getB m nm with
          | none => rfl
          | some v =>
            rcases (hget nm v).1 hg with h' | h'
            · exact absurd rfl (get_none hb _ h')
            · exact absurd rfl (get_none ha _ ((rest_iff b a (nm, v)).1 h').1)
  · cases h
theorem merge_err {a b : List (ByteArray × ByteArray)} {E : Nat} (h : mergeB a b = .error E) : E ≠ 0 := by
  unfold mergeB makeB at h
  split at h
  · split at h
    · cases h; decide
    · cases hm : makeF [] (b ++ restB b a) with
      | none => rw [hm] at h; cases h; decide
      | some out =>
        rw [hm] at h
        simp only [] at h
        split at h
        · cases h
        · cases h; decide
  · cases h; decide
end Go.Proofs.YtbfgkogmojnilaaDoor
