/-
  Layer 9, plain: a cabinet as lists (files with how many bytes of them last; names now and names that last; changes of names since), each call as a function, and what stays true: no more is taken than there is; what was synced and turned lasts.
-/
import Derived.Test.YtlhmeebbdjiokaaTexts
namespace Go.Proofs.Ytlhmeebbdjiokaa
set_option linter.unusedVariables false
set_option linter.unusedSimpArgs false
structure CabM where
  quota : Nat
  files : List (ByteArray × Nat)
  now : List (ByteArray × Nat)
  sure : List (ByteArray × Nat)
  wait : List (ByteArray × ByteArray × Nat)
  after : Int
  timed : Bool
  off : Bool
def eqC (s t : ByteArray) : Bool := decide (txt s = txt t)
def ltC (s t : ByteArray) : Bool := decide (txt s < txt t)
theorem eqC_iff (s t : ByteArray) : eqC s t = true ↔ s = t := by
  unfold eqC
  rw [decide_eq_true_eq]
  exact ⟨fun h => by rw [← strN_txt s, h, strN_txt], fun h => by rw [h]⟩
def findC : List (ByteArray × Nat) → ByteArray → Option Nat
  | [], _ => none
  | e :: l, nm => if eqC e.1 nm then some e.2 else findC l nm
def lessC (l : List (ByteArray × Nat)) (nm : ByteArray) : List (ByteArray × Nat) := l.filter fun e => !eqC e.1 nm
def layC : List (ByteArray × Nat) → ByteArray → Nat → List (ByteArray × Nat)
  | [], nm, f => [(nm, f)]
  | e :: l, nm, f => if ltC nm e.1 then (nm, f) :: e :: l else e :: layC l nm f
def withC (l : List (ByteArray × Nat)) (x : ByteArray × ByteArray × Nat) : List (ByteArray × Nat) :=
  if x.2.1.size = 0 then (if x.1.size = 0 then l else lessC l x.1) else layC (lessC (if x.1.size = 0 then l else lessC l x.1) x.2.1) x.2.1 x.2.2
def takenC (c : CabM) (i : Nat) : Bool := c.sure.any (fun e => e.2 == i) || c.wait.any (fun e => e.2.2 == i)
def sumC : List (ByteArray × Nat) → (Nat → Bool) → Nat
  | [], _ => 0
  | f :: r, T => (if T 0 then f.1.size else 0) + sumC r (fun i => T (i + 1))
def usedC (c : CabM) : Nat := sumC c.files (takenC c)
/-! Sums. -/
theorem sum_mono : ∀ (fs gs : List (ByteArray × Nat)) (T U : Nat → Bool), fs.length = gs.length → (∀ i, (fs.getD i (ByteArray.empty, 0)).1.size ≤ (gs.getD i (ByteArray.empty, 0)).1.size) → (∀ i, T i = true → U i = true) → sumC fs T ≤ sumC gs U
  | [], [], _, _, _, _, _ => Nat.le_refl _
  | [], _ :: _, _, _, h, _, _ => by simp at h
  | _ :: _, [], _, _, h, _, _ => by simp at h
  | f :: fs, g :: gs, T, U, h, hs, hT => by
    have h0 : f.1.size ≤ g.1.size := hs 0
    have ih := sum_mono fs gs (fun i => T (i + 1)) (fun i => U (i + 1)) (by simpa using h) (fun i => hs (i + 1)) (fun i => hT (i + 1))
    have h1 : (if T 0 = true then f.1.size else 0) ≤ (if U 0 = true then g.1.size else 0) := by
      by_cases ht : T 0 = true
      · rw [if_pos ht, if_pos (hT 0 ht)]; exact h0
      · rw [if_neg ht]; exact Nat.zero_le _
    show (if T 0 = true then f.1.size else 0) + _ ≤ (if U 0 = true then g.1.size else 0) + _
    omega
theorem sum_more : ∀ (fs : List (ByteArray × Nat)) (f : ByteArray × Nat) (T : Nat → Bool), sumC (fs ++ [f]) T = sumC fs T + (if T fs.length then f.1.size else 0)
  | [], f, T => by show (if T 0 = true then f.1.size else 0) + 0 = 0 + _; rw [Nat.add_zero, Nat.zero_add]; rfl
  | g :: fs, f, T => by
    show (if T 0 = true then g.1.size else 0) + sumC (fs ++ [f]) (fun i => T (i + 1)) = (if T 0 = true then g.1.size else 0) + sumC fs (fun i => T (i + 1)) + _
    rw [sum_more fs f (fun i => T (i + 1)), List.length_cons]
    omega
theorem sum_set : ∀ (fs : List (ByteArray × Nat)) (f : ByteArray × Nat) (T : Nat → Bool) (n : Nat), n < fs.length → T n = true → sumC (fs.set n f) T + (fs.getD n (ByteArray.empty, 0)).1.size = sumC fs T + f.1.size
  | [], _, _, _, h, _ => by simp at h
  | g :: fs, f, T, 0, _, ht => by
    show (if T 0 = true then f.1.size else 0) + sumC fs _ + g.1.size = (if T 0 = true then g.1.size else 0) + sumC fs _ + f.1.size
    rw [if_pos ht, if_pos ht]
    omega
  | g :: fs, f, T, n + 1, h, ht => by
    have ih := sum_set fs f (fun i => T (i + 1)) n (by simpa using h) ht
    show (if T 0 = true then g.1.size else 0) + sumC (fs.set n f) _ + (fs.getD n (ByteArray.empty, 0)).1.size = (if T 0 = true then g.1.size else 0) + sumC fs _ + f.1.size
    omega
theorem sum_agree : ∀ (fs : List (ByteArray × Nat)) (T U : Nat → Bool), (∀ i, i < fs.length → T i = U i) → sumC fs T = sumC fs U
  | [], _, _, _ => rfl
  | f :: fs, T, U, h => by
    show (if T 0 = true then f.1.size else 0) + sumC fs (fun i => T (i + 1)) = (if U 0 = true then f.1.size else 0) + sumC fs (fun i => U (i + 1))
    rw [h 0 (by simp), sum_agree fs (fun i => T (i + 1)) (fun i => U (i + 1)) (fun i hi => h (i + 1) (by simpa using hi))]
/-! Calls. -/
def goodL : List Nat → Bool
  | [] => true
  | c :: l => ((decide (97 ≤ c) && decide (c ≤ 122)) || (decide (48 ≤ c) && decide (c ≤ 57)) || decide (c = 45) || decide (c = 46)) && goodL l
def goodC (s : ByteArray) : Bool := decide (1 ≤ s.size) && decide (s.size ≤ 32) && goodL (txt s)
def powerE (c : CabM) : Nat := if c.timed && decide (c.after = 0) then 11 else 0
def powerC (c : CabM) : CabM := if c.timed && decide (c.after = 0) then { c with off := true } else if c.timed then { c with after := c.after - 1 } else c
def namesC (c : CabM) (x : ByteArray × ByteArray × Nat) : CabM := { c with now := withC c.now x, wait := c.wait ++ [x] }
def createE (c : CabM) (nm : ByteArray) : Nat :=
  if c.off then 11 else if !goodC nm then 6 else if (findC c.now nm).isSome then 8 else if 4096 ≤ c.now.length then 9 else 0
def createC (c : CabM) (nm : ByteArray) : CabM :=
  namesC { c with files := c.files ++ [(ByteArray.empty, 0)] } (ByteArray.empty, nm, c.files.length)
def fileC (c : CabM) (n : Nat) : ByteArray × Nat := c.files.getD n (ByteArray.empty, 0)
def appendE (c : CabM) (nm : ByteArray) (b : ByteArray) : Nat := if c.off then 11 else match findC c.now nm with
  | none => 7
  | some n => if 1048576 < (fileC c n).1.size + b.size then 17 else if c.quota < usedC c + b.size then 10 else 0
def appendC (c : CabM) (n : Nat) (b : ByteArray) : CabM := { c with files := c.files.set n ((fileC c n).1 ++ b, (fileC c n).2) }
def someE (c : CabM) (nm : ByteArray) : Nat := if c.off then 11 else match findC c.now nm with | none => 7 | some _ => 0
def syncC (c : CabM) (n : Nat) : CabM := { c with files := c.files.set n ((fileC c n).1, (fileC c n).1.size) }
def renameE (c : CabM) (old nm : ByteArray) : Nat := if c.off then 11 else match findC c.now old with | none => 7 | some _ => if !goodC nm then 6 else 0
def turnE (c : CabM) : Nat := if c.off then 11 else 0
def turnC (c : CabM) : CabM := { c with sure := c.now, wait := [] }
def failC (c : CabM) (n : Int) : CabM := { c with timed := decide (0 ≤ n), after := n }
def partC (z : Int) (most : Nat) : Nat := if z < 0 then 0 else if (most : Int) < z then most else z.toNat
def keepC (keep : List Int) (most : Nat) : Nat := match keep with | [] => 0 | z :: _ => partC z most
def cutC (f : ByteArray × Nat) (keep : List Int) (turn : UInt8) : ByteArray :=
  let e := f.2 + keepC keep (f.1.size - f.2)
  if turn ≠ 0 ∧ e < f.1.size then f.1.extract 0 e ++ ⟨#[f.1.data.getD e 0 ^^^ turn]⟩ else f.1.extract 0 e
def crashF : List (ByteArray × Nat) → List Int → UInt8 → List (ByteArray × Nat) → List (ByteArray × Nat)
  | [], _, _, fs => fs
  | e :: l, keep, t, fs => crashF l keep.tail t (fs.set e.2 (cutC (fs.getD e.2 (ByteArray.empty, 0)) keep t, (cutC (fs.getD e.2 (ByteArray.empty, 0)) keep t).size))
def lastC (c : CabM) (names : Int) : List (ByteArray × Nat) := (c.wait.take (partC names c.wait.length)).foldl withC c.sure
def crashC (c : CabM) (names : Int) (keep : List Int) (t : UInt8) : CabM :=
  { c with files := crashF (lastC c names) keep t c.files, now := lastC c names, sure := lastC c names, wait := [], timed := false, off := false }
/-! What stays true. -/
def InvC (c : CabM) : Prop := (∀ e ∈ c.now, takenC c e.2 = true) ∧ (∀ i, takenC c i = true → i < c.files.length) ∧ (∀ i, (fileC c i).2 ≤ (fileC c i).1.size ∧ (fileC c i).1.size ≤ 1048576) ∧ usedC c ≤ c.quota
theorem find_mem : ∀ (l : List (ByteArray × Nat)) (nm : ByteArray) (n : Nat), findC l nm = some n → ∃ e ∈ l, e.2 = n
  | [], _, _, h => by cases h
  | e :: l, nm, n, h => by
    unfold findC at h
    split at h
    · cases h
      exact ⟨e, List.mem_cons_self .., rfl⟩
    · obtain ⟨x, hx, hn⟩ := find_mem l nm n h
      exact ⟨x, List.mem_cons_of_mem _ hx, hn⟩
theorem lay_mem : ∀ (l : List (ByteArray × Nat)) (nm : ByteArray) (f : Nat) (e : ByteArray × Nat), e ∈ layC l nm f → e = (nm, f) ∨ e ∈ l
  | [], nm, f, e, h => by
    have : e = (nm, f) := by simpa [layC] using h
    exact .inl this
  | x :: l, nm, f, e, h => by
    unfold layC at h
    split at h
    · rcases List.mem_cons.1 h with h | h
      · exact .inl h
      · exact .inr h
    · rcases List.mem_cons.1 h with h | h
      · exact .inr (by rw [h]; exact List.mem_cons_self ..)
      · rcases lay_mem l nm f e h with h | h
        · exact .inl h
        · exact .inr (List.mem_cons_of_mem _ h)
theorem less_mem {l : List (ByteArray × Nat)} {nm : ByteArray} {e : ByteArray × Nat} (h : e ∈ lessC l nm) : e ∈ l := (List.mem_filter.1 h).1
theorem with_mem {l : List (ByteArray × Nat)} {x : ByteArray × ByteArray × Nat} {e : ByteArray × Nat} (h : e ∈ withC l x) : e.2 = x.2.2 ∨ e ∈ l := by
  have h1 : ∀ e, e ∈ (if x.1.size = 0 then l else lessC l x.1) → e ∈ l := fun e h => by
    split at h
    · exact h
    · exact less_mem h
  unfold withC at h
  split at h
  · exact .inr (h1 e h)
  · rcases lay_mem _ _ _ _ h with h | h
    · exact .inl (by rw [h])
    · exact .inr (h1 e (less_mem h))
theorem folded_mem : ∀ (xs : List (ByteArray × ByteArray × Nat)) (l : List (ByteArray × Nat)) (e : ByteArray × Nat), e ∈ xs.foldl withC l → e ∈ l ∨ ∃ x ∈ xs, x.2.2 = e.2
  | [], l, e, h => .inl h
  | x :: xs, l, e, h => by
    rw [List.foldl_cons] at h
    rcases folded_mem xs _ e h with h | ⟨y, hy, he⟩
    · rcases with_mem h with h | h
      · exact .inr ⟨x, List.mem_cons_self .., h.symm⟩
      · exact .inl h
    · exact .inr ⟨y, List.mem_cons_of_mem _ hy, he⟩
theorem taken_iff (c : CabM) (i : Nat) : takenC c i = true ↔ (∃ e ∈ c.sure, e.2 = i) ∨ ∃ x ∈ c.wait, x.2.2 = i := by
  unfold takenC
  rw [Bool.or_eq_true, List.any_eq_true, List.any_eq_true]
  simp
theorem file_set (fs : List (ByteArray × Nat)) (n i : Nat) (f : ByteArray × Nat) (h : n < fs.length) : (fs.set n f).getD i (ByteArray.empty, 0) = if i = n then f else fs.getD i (ByteArray.empty, 0) := by
  rw [List.getD_eq_getElem?_getD, List.getElem?_set]
  by_cases hi : i = n
  · subst hi; rw [if_pos rfl, if_pos rfl, if_pos h]; rfl
  · rw [if_neg (fun e => hi e.symm), if_neg hi, List.getD_eq_getElem?_getD]
theorem inv_files {c : CabM} (h : InvC c) {n : Nat} {nm : ByteArray} (hf : findC c.now nm = some n) : n < c.files.length ∧ takenC c n = true := by
  obtain ⟨e, he, hn⟩ := find_mem _ _ _ hf
  have ht := h.1 e he
  rw [hn] at ht
  exact ⟨h.2.1 n ht, ht⟩
theorem inv_power {c : CabM} (h : InvC c) : InvC (powerC c) := by
  unfold powerC
  split
  · exact h
  · split
    · exact h
    · exact h
theorem inv_fail {c : CabM} (n : Int) (h : InvC c) : InvC (failC c n) := h
theorem inv_turn {c : CabM} (h : InvC c) : InvC (turnC c) := by
  have ht : ∀ i, takenC (turnC c) i = true → takenC c i = true := fun i hi => by
    rcases (taken_iff _ _).1 hi with ⟨e, he, rfl⟩ | ⟨x, hx, _⟩
    · exact h.1 e he
    · cases hx
  refine ⟨fun e he => (taken_iff _ _).2 (.inl ⟨e, he, rfl⟩), fun i hi => h.2.1 i (ht i hi), h.2.2.1, ?_⟩
  exact Nat.le_trans (sum_mono c.files c.files _ _ rfl (fun i => Nat.le_refl _) ht) h.2.2.2
theorem inv_names {c : CabM} (h : InvC c) (x : ByteArray × ByteArray × Nat) (hx : takenC c x.2.2 = true) : InvC (namesC c x) := by
  have ht : ∀ i, takenC (namesC c x) i = true → takenC c i = true := fun i hi => by
    rcases (taken_iff _ _).1 hi with ⟨e, he, hn⟩ | ⟨y, hy, hn⟩
    · exact (taken_iff _ _).2 (.inl ⟨e, he, hn⟩)
    · rcases List.mem_append.1 hy with hy | hy
      · exact (taken_iff _ _).2 (.inr ⟨y, hy, hn⟩)
      · rw [List.mem_singleton.1 hy] at hn
        rw [← hn]; exact hx
  have ht2 : ∀ i, takenC c i = true → takenC (namesC c x) i = true := fun i hi => by
    rcases (taken_iff _ _).1 hi with ⟨e, he, hn⟩ | ⟨y, hy, hn⟩
    · exact (taken_iff _ _).2 (.inl ⟨e, he, hn⟩)
    · exact (taken_iff _ _).2 (.inr ⟨y, List.mem_append_left _ hy, hn⟩)
  refine ⟨fun e he => ?_, fun i hi => h.2.1 i (ht i hi), h.2.2.1, ?_⟩
  · rcases with_mem he with he | he
    · rw [he]; exact ht2 _ hx
    · exact ht2 _ (h.1 e he)
  · exact Nat.le_trans (sum_mono c.files c.files _ _ rfl (fun i => Nat.le_refl _) ht) h.2.2.2
theorem inv_create {c : CabM} (h : InvC c) (nm : ByteArray) : InvC (createC c nm) := by
  have hno : takenC c c.files.length = false := by
    cases hc : takenC c c.files.length with
    | false => rfl
    | true => exact absurd (h.2.1 _ hc) (Nat.lt_irrefl _)
  have hst : ∀ i, takenC (createC c nm) i = true → takenC c i = true ∨ i = c.files.length := fun i hi => by
    rcases (taken_iff _ _).1 hi with ⟨e, he, hn⟩ | ⟨y, hy, hn⟩
    · exact .inl ((taken_iff _ _).2 (.inl ⟨e, he, hn⟩))
    · rcases List.mem_append.1 hy with hy | hy
      · exact .inl ((taken_iff _ _).2 (.inr ⟨y, hy, hn⟩))
      · rw [List.mem_singleton.1 hy] at hn
        exact .inr hn.symm
  have ht2 : ∀ i, takenC c i = true → takenC (createC c nm) i = true := fun i hi => by
    rcases (taken_iff _ _).1 hi with ⟨e, he, hn⟩ | ⟨y, hy, hn⟩
    · exact (taken_iff _ _).2 (.inl ⟨e, he, hn⟩)
    · exact (taken_iff _ _).2 (.inr ⟨y, List.mem_append_left _ hy, hn⟩)
  have hself : takenC (createC c nm) c.files.length = true := (taken_iff _ _).2 (.inr ⟨_, List.mem_append_right _ (List.mem_singleton.2 rfl), rfl⟩)
  have hlen : (createC c nm).files.length = c.files.length + 1 := by
    show (c.files ++ [(ByteArray.empty, 0)]).length = _
    rw [List.length_append]; rfl
  have hfile : ∀ i, fileC (createC c nm) i = fileC c i := fun i => by
    show (c.files ++ [(ByteArray.empty, 0)]).getD i (ByteArray.empty, 0) = c.files.getD i (ByteArray.empty, 0)
    rw [List.getD_eq_getElem?_getD, List.getD_eq_getElem?_getD, List.getElem?_append]
    split
    · rfl
    · rename_i hi
      rw [List.getElem?_eq_none (l := c.files) (by omega)]
      cases hk : i - c.files.length with
      | zero => rfl
      | succ k => rfl
  refine ⟨fun e he => ?_, fun i hi => ?_, fun i => ?_, ?_⟩
  · rcases with_mem he with he | he
    · rw [he]; exact hself
    · exact ht2 _ (h.1 e he)
  · rw [hlen]
    rcases hst i hi with hi | hi
    · have := h.2.1 i hi; omega
    · omega
  · rw [hfile]; exact h.2.2.1 i
  · show sumC (c.files ++ [(ByteArray.empty, 0)]) (takenC (createC c nm)) ≤ c.quota
    rw [sum_more]
    have e0 : (if takenC (createC c nm) c.files.length = true then (ByteArray.empty, 0).1.size else 0) = 0 := by split <;> rfl
    have hle : sumC c.files (takenC (createC c nm)) ≤ usedC c := by
      have h1 := sum_agree c.files (takenC (createC c nm)) (takenC c) fun i hi => by
        cases hc : takenC c i with
        | true => exact ht2 i hc
        | false =>
          cases hd : takenC (createC c nm) i with
          | false => rfl
          | true => rcases hst i hd with h1 | h1
                    · rw [hc] at h1; cases h1
                    · omega
      rw [h1]
      exact Nat.le_refl _
    have := h.2.2.2
    rw [e0]
    omega
theorem inv_append {c : CabM} (h : InvC c) {nm : ByteArray} {n : Nat} (b : ByteArray) (hf : findC c.now nm = some n) (hl : (fileC c n).1.size + b.size ≤ 1048576) (hq : usedC c + b.size ≤ c.quota) : InvC (appendC c n b) ∧ usedC (appendC c n b) = usedC c + b.size := by
  obtain ⟨hn, ht⟩ := inv_files h hf
  have hs := sum_set c.files ((fileC c n).1 ++ b, (fileC c n).2) (takenC c) n hn ht
  have hz : ((fileC c n).1 ++ b).size = (fileC c n).1.size + b.size := ByteArray.size_append
  have hu : usedC (appendC c n b) = usedC c + b.size := by
    show sumC (c.files.set n _) (takenC c) = sumC c.files (takenC c) + b.size
    have hs' : sumC (c.files.set n ((fileC c n).1 ++ b, (fileC c n).2)) (takenC c) + (fileC c n).1.size = sumC c.files (takenC c) + ((fileC c n).1 ++ b).size := hs
    rw [hz] at hs'
    omega
  refine ⟨⟨h.1, fun i hi => ?_, fun i => ?_, by rw [hu]; exact hq⟩, hu⟩
  · show i < (c.files.set n _).length
    rw [List.length_set]
    exact h.2.1 i hi
  · show ((c.files.set n _).getD i _).2 ≤ ((c.files.set n _).getD i _).1.size ∧ ((c.files.set n _).getD i _).1.size ≤ 1048576
    rw [file_set _ _ _ _ hn]
    have hb := h.2.2.1 n
    split
    · show (fileC c n).2 ≤ ((fileC c n).1 ++ b).size ∧ ((fileC c n).1 ++ b).size ≤ 1048576
      rw [hz]
      omega
    · exact h.2.2.1 i
theorem inv_sync {c : CabM} (h : InvC c) {nm : ByteArray} {n : Nat} (hf : findC c.now nm = some n) : InvC (syncC c n) ∧ usedC (syncC c n) = usedC c := by
  obtain ⟨hn, ht⟩ := inv_files h hf
  have hs := sum_set c.files ((fileC c n).1, (fileC c n).1.size) (takenC c) n hn ht
  have hu : usedC (syncC c n) = usedC c := by
    show sumC (c.files.set n _) (takenC c) = sumC c.files (takenC c)
    have hs' : sumC (c.files.set n ((fileC c n).1, (fileC c n).1.size)) (takenC c) + (fileC c n).1.size = sumC c.files (takenC c) + (fileC c n).1.size := hs
    omega
  refine ⟨⟨h.1, fun i hi => ?_, fun i => ?_, by rw [hu]; exact h.2.2.2⟩, hu⟩
  · show i < (c.files.set n _).length
    rw [List.length_set]
    exact h.2.1 i hi
  · show ((c.files.set n _).getD i _).2 ≤ ((c.files.set n _).getD i _).1.size ∧ ((c.files.set n _).getD i _).1.size ≤ 1048576
    rw [file_set _ _ _ _ hn]
    have hb := h.2.2.1 n
    split
    · exact ⟨Nat.le_refl _, hb.2⟩
    · exact h.2.2.1 i
theorem part_le (z : Int) (m : Nat) : partC z m ≤ m := by
  unfold partC
  split
  · exact Nat.zero_le _
  · split
    · exact Nat.le_refl _
    · omega
theorem keep_le (keep : List Int) (m : Nat) : keepC keep m ≤ m := by
  cases keep with
  | nil => exact Nat.zero_le _
  | cons z _ => exact part_le z m
theorem cut_size (f : ByteArray × Nat) (keep : List Int) (t : UInt8) (h : f.2 ≤ f.1.size) : (cutC f keep t).size ≤ f.1.size ∧ f.2 ≤ (cutC f keep t).size := by
  have hk := keep_le keep (f.1.size - f.2)
  unfold cutC
  dsimp only
  split
  · rename_i h2
    rw [ByteArray.size_append, ByteArray.size_extract]
    show min (f.2 + keepC keep (f.1.size - f.2)) f.1.size - 0 + 1 ≤ _ ∧ f.2 ≤ min (f.2 + keepC keep (f.1.size - f.2)) f.1.size - 0 + 1
    have := h2.2
    omega
  · rw [ByteArray.size_extract]
    omega
theorem crash_files : ∀ (l : List (ByteArray × Nat)) (keep : List Int) (t : UInt8) (fs : List (ByteArray × Nat)), (∀ e ∈ l, e.2 < fs.length) → (∀ i, (fs.getD i (ByteArray.empty, 0)).2 ≤ (fs.getD i (ByteArray.empty, 0)).1.size) →
    (crashF l keep t fs).length = fs.length ∧ ∀ i, ((crashF l keep t fs).getD i (ByteArray.empty, 0)).1.size ≤ (fs.getD i (ByteArray.empty, 0)).1.size ∧ ((crashF l keep t fs).getD i (ByteArray.empty, 0)).2 ≤ ((crashF l keep t fs).getD i (ByteArray.empty, 0)).1.size
  | [], _, _, fs, _, hs => ⟨rfl, fun i => ⟨Nat.le_refl _, hs i⟩⟩
  | e :: l, keep, t, fs, hl, hs => by
    have he := hl e (List.mem_cons_self ..)
    have hc := cut_size (fs.getD e.2 (ByteArray.empty, 0)) keep t (hs e.2)
    have hset := file_set fs e.2
    have ih := crash_files l keep.tail t (fs.set e.2 (cutC (fs.getD e.2 (ByteArray.empty, 0)) keep t, (cutC (fs.getD e.2 (ByteArray.empty, 0)) keep t).size))
      (fun x hx => by rw [List.length_set]; exact hl x (List.mem_cons_of_mem _ hx))
      (fun i => by
        rw [hset i _ he]
        split
        · exact Nat.le_refl _
        · exact hs i)
    refine ⟨ih.1.trans (List.length_set ..), fun i => ⟨Nat.le_trans (ih.2 i).1 ?_, (ih.2 i).2⟩⟩
    rw [hset i _ he]
    split
    · rename_i hi; rw [hi]; exact hc.1
    · exact Nat.le_refl _
theorem inv_crash {c : CabM} (h : InvC c) (names : Int) (keep : List Int) (t : UInt8) : InvC (crashC c names keep t) ∧ usedC (crashC c names keep t) ≤ usedC c := by
  have hm : ∀ e ∈ lastC c names, takenC c e.2 = true := fun e he => by
    rcases folded_mem _ _ e he with he | ⟨x, hx, hn⟩
    · exact (taken_iff _ _).2 (.inl ⟨e, he, rfl⟩)
    · exact (taken_iff _ _).2 (.inr ⟨x, List.mem_of_mem_take hx, hn⟩)
  have ht : ∀ i, takenC (crashC c names keep t) i = true → takenC c i = true := fun i hi => by
    rcases (taken_iff _ _).1 hi with ⟨e, he, rfl⟩ | ⟨x, hx, _⟩
    · exact hm e he
    · cases hx
  obtain ⟨hl, hs⟩ := crash_files (lastC c names) keep t c.files (fun e he => h.2.1 _ (hm e he)) (fun i => (h.2.2.1 i).1)
  have hu : usedC (crashC c names keep t) ≤ usedC c := sum_mono _ _ _ _ hl (fun i => (hs i).1) ht
  refine ⟨⟨fun e he => (taken_iff _ _).2 (.inl ⟨e, he, rfl⟩), fun i hi => ?_, fun i => ?_, Nat.le_trans hu h.2.2.2⟩, hu⟩
  · show i < (crashF _ _ _ c.files).length
    rw [hl]; exact h.2.1 i (ht i hi)
  · exact ⟨(hs i).2, Nat.le_trans (hs i).1 (h.2.2.1 i).2⟩
end Go.Proofs.Ytlhmeebbdjiokaa
