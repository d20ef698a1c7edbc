/-
  Layer 9, plain: the order of a cabinet's lists (names rising, no file twice, however many of the changes since last), what keeps it; what is taken behind a Turn or a Crash is what the files now have.
-/
import Derived.Test.YtlhmeebbdjiokaaCabMath
namespace Go.Proofs.Ytlhmeebbdjiokaa
set_option linter.unusedVariables false
set_option linter.unusedSimpArgs false
def SortC (l : List (ByteArray × Nat)) : Prop := l.Pairwise fun a b => txt a.1 < txt b.1
def OneC (l : List (ByteArray × Nat)) : Prop := l.Pairwise fun a b => a.2 ≠ b.2
def FullC (l : List (ByteArray × Nat)) : Prop := ∀ e ∈ l, e.1.size ≠ 0 ∧ e.1.size ≤ 32
theorem eqC_self (s : ByteArray) : eqC s s = true := (eqC_iff s s).2 rfl
theorem eqC_ne {s t : ByteArray} (h : s ≠ t) : eqC s t = false := by
  cases he : eqC s t with
  | false => rfl
  | true => exact absurd ((eqC_iff s t).1 he) h
theorem txt_inj {s t : ByteArray} (h : txt s = txt t) : s = t := by rw [← strN_txt s, h, strN_txt]
theorem lt_or (s t : ByteArray) : txt s < txt t ∨ s = t ∨ txt t < txt s := by
  by_cases h : txt s < txt t
  · exact .inl h
  · by_cases k : txt t < txt s
    · exact .inr (.inr k)
    · exact .inr (.inl (txt_inj (List.le_antisymm (List.not_lt.1 k) (List.not_lt.1 h))))
theorem less_mem_ne {l : List (ByteArray × Nat)} {nm : ByteArray} {e : ByteArray × Nat} (h : e ∈ lessC l nm) : e.1 ≠ nm := by
  intro he
  have := (List.mem_filter.1 h).2
  rw [he, eqC_self] at this
  cases this
theorem sort_less {l : List (ByteArray × Nat)} (h : SortC l) (nm : ByteArray) : SortC (lessC l nm) := h.filter _
theorem one_less {l : List (ByteArray × Nat)} (h : OneC l) (nm : ByteArray) : OneC (lessC l nm) := h.filter _
theorem lay_sort : ∀ (l : List (ByteArray × Nat)) (nm : ByteArray) (f : Nat), SortC l → (∀ e ∈ l, e.1 ≠ nm) → SortC (layC l nm f)
  | [], nm, f, _, _ => List.pairwise_cons.2 ⟨fun _ h => (by cases h), List.Pairwise.nil⟩
  | e :: l, nm, f, h, hn => by
    obtain ⟨h1, h2⟩ := List.pairwise_cons.1 h
    unfold layC
    split
    · rename_i hlt
      have hlt' : txt nm < txt e.1 := by unfold ltC at hlt; exact of_decide_eq_true hlt
      refine List.pairwise_cons.2 ⟨fun x hx => ?_, h⟩
      rcases List.mem_cons.1 hx with rfl | hx
      · exact hlt'
      · exact List.lt_trans hlt' (h1 x hx)
    · rename_i hlt
      have hlt' : ¬ txt nm < txt e.1 := fun k => hlt (decide_eq_true k)
      refine List.pairwise_cons.2 ⟨fun x hx => ?_, lay_sort l nm f h2 (fun x hx => hn x (List.mem_cons_of_mem _ hx))⟩
      rcases lay_mem _ _ _ _ hx with rfl | hx
      · rcases lt_or e.1 nm with k | k | k
        · exact k
        · exact absurd k (hn e (List.mem_cons_self ..))
        · exact absurd k hlt'
      · exact h1 x hx
theorem lay_one : ∀ (l : List (ByteArray × Nat)) (nm : ByteArray) (f : Nat), OneC l → (∀ e ∈ l, e.2 ≠ f) → OneC (layC l nm f)
  | [], nm, f, _, _ => List.pairwise_cons.2 ⟨fun _ h => (by cases h), List.Pairwise.nil⟩
  | e :: l, nm, f, h, hn => by
    obtain ⟨h1, h2⟩ := List.pairwise_cons.1 h
    unfold layC
    split
    · refine List.pairwise_cons.2 ⟨fun x hx => (hn x hx).symm, h⟩
    · refine List.pairwise_cons.2 ⟨fun x hx => ?_, lay_one l nm f h2 (fun x hx => hn x (List.mem_cons_of_mem _ hx))⟩
      rcases lay_mem _ _ _ _ hx with rfl | hx
      · exact hn e (List.mem_cons_self ..)
      · exact h1 x hx
theorem with_sort {l : List (ByteArray × Nat)} (h : SortC l) (x : ByteArray × ByteArray × Nat) : SortC (withC l x) := by
  have h1 : SortC (if x.1.size = 0 then l else lessC l x.1) := by
    split
    · exact h
    · exact sort_less h _
  unfold withC
  split
  · exact h1
  · exact lay_sort _ _ _ (sort_less h1 _) (fun e he => less_mem_ne he)
theorem full_with {l : List (ByteArray × Nat)} (h : FullC l) (x : ByteArray × ByteArray × Nat) (hx : x.2.1.size ≤ 32) : FullC (withC l x) := by
  have h1 : FullC (if x.1.size = 0 then l else lessC l x.1) := by
    split
    · exact h
    · exact fun e he => h e (less_mem he)
  unfold withC
  split
  · exact h1
  · rename_i hz
    intro e he
    rcases lay_mem _ _ _ _ he with rfl | he
    · exact ⟨hz, hx⟩
    · exact h1 e (less_mem he)
theorem fold_sort : ∀ (xs : List (ByteArray × ByteArray × Nat)) (l : List (ByteArray × Nat)), SortC l → SortC (xs.foldl withC l)
  | [], _, h => h
  | x :: xs, l, h => fold_sort xs _ (with_sort h x)
theorem fold_full : ∀ (xs : List (ByteArray × ByteArray × Nat)) (l : List (ByteArray × Nat)), FullC l → (∀ x ∈ xs, x.2.1.size ≤ 32) → FullC (xs.foldl withC l)
  | [], _, h, _ => h
  | x :: xs, l, h, hx => fold_full xs _ (full_with h x (hx x (List.mem_cons_self ..))) (fun y hy => hx y (List.mem_cons_of_mem _ hy))
/-- Found: the entry. -/
theorem find_entry : ∀ (l : List (ByteArray × Nat)) (nm : ByteArray) (n : Nat), findC l nm = some n → (nm, n) ∈ l
  | [], _, _, h => by cases h
  | e :: l, nm, n, h => by
    unfold findC at h
    split at h
    · rename_i he
      cases h
      have : e = (nm, e.2) := by rw [← (eqC_iff _ _).1 he]
      rw [← this]
      exact List.mem_cons_self ..
    · exact List.mem_cons_of_mem _ (find_entry l nm n h)
theorem find_no : ∀ (l : List (ByteArray × Nat)) (nm : ByteArray), findC l nm = none → ∀ e ∈ l, e.1 ≠ nm
  | [], _, _, _, h => by cases h
  | e :: l, nm, h, x, hx => by
    unfold findC at h
    split at h
    · cases h
    · rename_i he
      rcases List.mem_cons.1 hx with rfl | hx
      · intro k
        exact he ((eqC_iff _ _).2 k)
      · exact find_no l nm h x hx
/-- In rising lists what stands under a name is found. -/
theorem find_in {l : List (ByteArray × Nat)} (h : SortC l) {nm : ByteArray} {n : Nat} (hm : (nm, n) ∈ l) : findC l nm = some n := by
  induction l with
  | nil => cases hm
  | cons e l ih =>
    obtain ⟨h1, h2⟩ := List.pairwise_cons.1 h
    unfold findC
    rcases List.mem_cons.1 hm with rfl | hm
    · rw [if_pos (eqC_self _)]
    · have := h1 _ hm
      rw [if_neg (fun k => ?_)]
      · exact ih h2 hm
      · have k' := (eqC_iff _ _).1 k
        dsimp only at this
        rw [k'] at this
        exact List.lt_irrefl _ this
theorem one_entry {l : List (ByteArray × Nat)} (h : OneC l) {e x : ByteArray × Nat} (he : e ∈ l) (hx : x ∈ l) (hn : e.2 = x.2) : e = x := by
  induction l with
  | nil => cases he
  | cons y l ih =>
    obtain ⟨h1, h2⟩ := List.pairwise_cons.1 h
    rcases List.mem_cons.1 he with rfl | he'
    · rcases List.mem_cons.1 hx with rfl | hx'
      · rfl
      · exact absurd hn (h1 x hx')
    · rcases List.mem_cons.1 hx with rfl | hx'
      · exact absurd hn.symm (h1 e he')
      · exact ih h2 he' hx'
/-- A file that is renamed stands once. -/
theorem with_one_rename {l : List (ByteArray × Nat)} (h : OneC l) {old nm : ByteArray} {n : Nat} (ho : old.size ≠ 0) (hm : (old, n) ∈ l) : OneC (withC l (old, nm, n)) := by
  have h1 : OneC (lessC l old) := one_less h _
  have hno : ∀ e ∈ lessC l old, e.2 ≠ n := fun e he hn => less_mem_ne he (by rw [one_entry h (less_mem he) hm hn])
  unfold withC
  dsimp only
  rw [if_neg ho]
  split
  · exact h1
  · exact lay_one _ _ _ (one_less h1 _) (fun e he => hno e (less_mem he))
theorem with_one_remove {l : List (ByteArray × Nat)} (h : OneC l) (old : ByteArray) (n : Nat) : OneC (withC l (old, ByteArray.empty, n)) := by
  unfold withC
  dsimp only
  rw [if_pos (show ByteArray.empty.size = 0 from rfl)]
  split
  · exact h
  · exact one_less h _
theorem with_one_create {l : List (ByteArray × Nat)} (h : OneC l) (nm : ByteArray) (n : Nat) (hn : ∀ e ∈ l, e.2 ≠ n) : OneC (withC l (ByteArray.empty, nm, n)) := by
  unfold withC
  dsimp only
  rw [if_pos (show ByteArray.empty.size = 0 from rfl)]
  split
  · exact h
  · exact lay_one _ _ _ (one_less h _) (fun e he => hn e (less_mem he))
/-- What stands under names: rising, no file twice, full names; so too for however many of the changes since. -/
def OrdC (c : CabM) : Prop :=
  SortC c.sure ∧ FullC c.sure ∧ (∀ x ∈ c.wait, x.2.1.size ≤ 32 ∧ (x.1.size = 0 → x.2.1.size ≠ 0) ∧ x.1.size ≤ 32) ∧ (∀ k, OneC ((c.wait.take k).foldl withC c.sure)) ∧ c.now = c.wait.foldl withC c.sure
theorem OrdC.sortNow {c : CabM} (h : OrdC c) : SortC c.now := by rw [h.2.2.2.2]; exact fold_sort _ _ h.1
theorem OrdC.fullNow {c : CabM} (h : OrdC c) : FullC c.now := by rw [h.2.2.2.2]; exact fold_full _ _ h.2.1 (fun x hx => (h.2.2.1 x hx).1)
theorem OrdC.oneNow {c : CabM} (h : OrdC c) : OneC c.now := by
  have := h.2.2.2.1 c.wait.length
  rw [List.take_length] at this
  rw [h.2.2.2.2]
  exact this
theorem OrdC.lists {c d : CabM} (h : OrdC c) (h1 : d.now = c.now) (h2 : d.sure = c.sure) (h3 : d.wait = c.wait) : OrdC d := by
  unfold OrdC
  rw [h1, h2, h3]
  exact h
theorem ord_new (q : Nat) : OrdC { quota := q, files := [], now := [], sure := [], wait := [], after := 0, timed := false, off := false } :=
  ⟨List.Pairwise.nil, fun _ h => (by cases h), fun _ h => (by cases h), fun k => by rw [List.take_nil]; exact List.Pairwise.nil, rfl⟩
theorem ord_names {c : CabM} (h : OrdC c) (x : ByteArray × ByteArray × Nat) (hx : x.2.1.size ≤ 32 ∧ (x.1.size = 0 → x.2.1.size ≠ 0) ∧ x.1.size ≤ 32) (ho : OneC (withC c.now x)) : OrdC (namesC c x) := by
  obtain ⟨h1, h2, h3, h4, h5⟩ := h
  refine ⟨h1, h2, fun y hy => ?_, fun k => ?_, ?_⟩
  · rcases List.mem_append.1 hy with hy | hy
    · exact h3 y hy
    · rw [List.mem_singleton.1 hy]; exact hx
  · show OneC (((c.wait ++ [x]).take k).foldl withC c.sure)
    by_cases hk : k ≤ c.wait.length
    · rw [List.take_append_of_le_length hk]
      exact h4 k
    · rw [List.take_of_length_le (by rw [List.length_append]; show c.wait.length + 1 ≤ k; omega), List.foldl_append]
      show OneC (withC (c.wait.foldl withC c.sure) x)
      rw [← h5]
      exact ho
  · show withC c.now x = (c.wait ++ [x]).foldl withC c.sure
    rw [List.foldl_append, h5]
    rfl
theorem ord_turn {c : CabM} (h : OrdC c) : OrdC (turnC c) :=
  ⟨h.sortNow, h.fullNow, fun _ h => (by cases h), fun k => by
    show OneC ((([] : List (ByteArray × ByteArray × Nat)).take k).foldl withC c.now)
    rw [List.take_nil]
    exact h.oneNow, rfl⟩
theorem ord_last {c : CabM} (h : OrdC c) (names : Int) : SortC (lastC c names) ∧ FullC (lastC c names) ∧ OneC (lastC c names) :=
  ⟨fold_sort _ _ h.1, fold_full _ _ h.2.1 (fun x hx => (h.2.2.1 x (List.mem_of_mem_take hx)).1), h.2.2.2.1 _⟩
theorem ord_crash {c : CabM} (h : OrdC c) (names : Int) (keep : List Int) (t : UInt8) : OrdC (crashC c names keep t) := by
  obtain ⟨h1, h2, h3⟩ := ord_last h names
  refine ⟨h1, h2, fun _ h => (by cases h), fun k => ?_, rfl⟩
  show OneC ((([] : List (ByteArray × ByteArray × Nat)).take k).foldl withC (lastC c names))
  rw [List.take_nil]
  exact h3
/-! What is taken. -/
def sizesC (fs : List (ByteArray × Nat)) (l : List (ByteArray × Nat)) : Nat := (l.map fun e => (fs.getD e.2 (ByteArray.empty, 0)).1.size).sum
theorem sum_none : ∀ (fs : List (ByteArray × Nat)), sumC fs (fun _ => false) = 0
  | [] => rfl
  | f :: fs => by
    show (if false = true then f.1.size else 0) + sumC fs (fun _ => false) = 0
    rw [sum_none fs]
    rfl
theorem sum_one : ∀ (fs : List (ByteArray × Nat)) (n : Nat) (T : Nat → Bool), n < fs.length → T n = false → sumC fs (fun i => (n == i) || T i) = (fs.getD n (ByteArray.empty, 0)).1.size + sumC fs T
  | [], _, _, h, _ => by simp at h
  | f :: fs, 0, T, _, ht => by
    have e := sum_agree fs (fun i => (0 == i + 1) || T (i + 1)) (fun i => T (i + 1)) (fun i _ => by
      have : (0 == i + 1) = false := rfl
      rw [this, Bool.false_or])
    show (if ((0 == 0) || T 0) = true then f.1.size else 0) + sumC fs (fun i => (0 == i + 1) || T (i + 1)) = f.1.size + ((if T 0 = true then f.1.size else 0) + sumC fs (fun i => T (i + 1)))
    rw [e, ht]
    simp
  | f :: fs, n + 1, T, h, ht => by
    have ih := sum_one fs n (fun i => T (i + 1)) (by simpa using h) ht
    have e := sum_agree fs (fun i => (n + 1 == i + 1) || T (i + 1)) (fun i => (n == i) || T (i + 1)) (fun i _ => by simp)
    show (if ((n + 1 == 0) || T 0) = true then f.1.size else 0) + sumC fs (fun i => (n + 1 == i + 1) || T (i + 1)) = (fs.getD n (ByteArray.empty, 0)).1.size + ((if T 0 = true then f.1.size else 0) + sumC fs (fun i => T (i + 1)))
    rw [e, ih]
    have : (n + 1 == 0) = false := rfl
    rw [this, Bool.false_or]
    omega
theorem sum_sizes : ∀ (l : List (ByteArray × Nat)) (fs : List (ByteArray × Nat)), OneC l → (∀ e ∈ l, e.2 < fs.length) → sumC fs (fun i => l.any (fun e => e.2 == i)) = sizesC fs l
  | [], fs, _, _ => sum_none fs
  | e :: l, fs, h, hl => by
    obtain ⟨h1, h2⟩ := List.pairwise_cons.1 h
    have hn : l.any (fun x => x.2 == e.2) = false := by
      rw [List.any_eq_false]
      intro x hx hk
      exact h1 x hx (beq_iff_eq.1 hk).symm
    have := sum_one fs e.2 (fun i => l.any (fun x => x.2 == i)) (hl e (List.mem_cons_self ..)) hn
    have ih := sum_sizes l fs h2 (fun x hx => hl x (List.mem_cons_of_mem _ hx))
    have e0 := sum_agree fs (fun i => (e :: l).any (fun x => x.2 == i)) (fun i => (e.2 == i) || l.any (fun x => x.2 == i)) (fun i _ => rfl)
    rw [e0, this, ih]
    rfl
theorem used_turn {c : CabM} (h : OrdC c) (hi : InvC c) : usedC (turnC c) = sizesC c.files c.now := by
  have e := sum_agree c.files (takenC (turnC c)) (fun i => c.now.any (fun e => e.2 == i)) (fun i _ => by
    show (c.now.any (fun e => e.2 == i) || ([] : List (ByteArray × ByteArray × Nat)).any _) = _
    rw [List.any_nil, Bool.or_false])
  exact e.trans (sum_sizes c.now c.files h.oneNow (fun x hx => hi.2.1 _ (hi.1 x hx)))
theorem last_less {c : CabM} (hi : InvC c) (names : Int) : ∀ e ∈ lastC c names, takenC c e.2 = true := fun e he => by
  rcases folded_mem _ _ e he with he | ⟨x, hx, hn⟩
  · exact (taken_iff _ _).2 (.inl ⟨e, he, rfl⟩)
  · exact (taken_iff _ _).2 (.inr ⟨x, List.mem_of_mem_take hx, hn⟩)
theorem used_crash {c : CabM} (h : OrdC c) (hi : InvC c) (names : Int) (keep : List Int) (t : UInt8) : usedC (crashC c names keep t) = sizesC (crashC c names keep t).files (lastC c names) := by
  have e := sum_agree (crashC c names keep t).files (takenC (crashC c names keep t)) (fun i => (lastC c names).any (fun e => e.2 == i)) (fun i _ => by
    show ((lastC c names).any (fun e => e.2 == i) || ([] : List (ByteArray × ByteArray × Nat)).any _) = _
    rw [List.any_nil, Bool.or_false])
  have hm := last_less hi names
  obtain ⟨hl, -⟩ := crash_files (lastC c names) keep t c.files (fun e he => hi.2.1 _ (hm e he)) (fun i => (hi.2.2.1 i).1)
  exact e.trans (sum_sizes _ _ (ord_last h names).2.2 (fun x hx => by
    show x.2 < (crashF _ _ _ c.files).length
    rw [hl]
    exact hi.2.1 _ (hm x hx)))
end Go.Proofs.Ytlhmeebbdjiokaa
