/-
  The program's names in memory: a map from texts to pointers, as a list of names that rise (each with the number of its file); the laws of a map's operations in these words.
-/
import Derived.Test.YtlhmeebbdjiokaaCabOrd
import Derived.Test.YtlhmeebbdjiokaaCabAt
import Derived.Test.YtlhmeebbdjiokaaOwn
import Derived.Maps.OwnSet
import Derived.Maps.OwnOps
import Derived.Maps.RangeWalk
import Derived.Sort.KeysCollected
namespace Go.Proofs.Ytlhmeebbdjiokaa
open Go.ChangeShapes Go.WideShapes Go.ChangeAt Go.RowKit Go.Maps Go.MapKept Go.ChangeMaps
set_option linter.unusedVariables false
set_option linter.unusedSimpArgs false
/-- How a pointer reads: the number of its block. -/
def ptrR : Value → Option (DataW Unit × List MemPlace)
  | .pointer none => some (.nil, [])
  | .pointer (some ⟨b, 0, none⟩) => some (.lit (.int .i64 ((b : Nat) : Int)), [])
  | _ => none
def keyL (s : ByteArray) : Lit := .string s.data.toList
def datM (l : List (ByteArray × Nat)) (fa : Nat → Nat) : DataW Unit := .map (l.map fun e => (keyL e.1, .lit (.int .i64 ((fa e.2 : Nat) : Int))))
def ptrV (fa : Nat → Nat) : Option Nat → Value
  | some n => .pointer (some ⟨fa n, 0, none⟩)
  | none => .pointer none
theorem ptr_lit {v : Value} {b : Nat} {ps : List MemPlace} (h : ptrR v = some (.lit (.int .i64 ((b : Nat) : Int)), ps)) : v = .pointer (some ⟨b, 0, none⟩) := by
  unfold ptrR at h
  split at h
  · cases h
  · rename_i b'
    have e : ((b' : Nat) : Int) = ((b : Nat) : Int) := by
      injection h with h
      injection h with h _
      injection h with h
      injection h
    rw [Int.ofNat_inj.1 e]
  · cases h
theorem ptr_nil {v : Value} {ps : List MemPlace} (h : ptrR v = some (.nil, ps)) : v = .pointer none := by
  unfold ptrR at h
  split at h
  · rfl
  · cases h
  · cases h
theorem ptr_mk (b : Nat) : ptrR (.pointer (some ⟨b, 0, none⟩)) = some (.lit (.int .i64 ((b : Nat) : Int)), []) := rfl
theorem key_same (s t : ByteArray) : (keyL s).sameKey (keyL t) = eqC s t := by
  show (s.data.toList == t.data.toList) = eqC s t
  cases h : eqC s t with
  | true => rw [(eqC_iff s t).1 h]; simp
  | false =>
    rw [beq_eq_false_iff_ne]
    intro e
    have : s = t := ByteArray.ext (Array.toList_inj.1 e)
    rw [this, eqC_self] at h
    cases h
theorem before_lt : ∀ (l m : List UInt8), bytesBefore l m = decide (l.map UInt8.toNat < m.map UInt8.toNat)
  | [], [] => by simp [bytesBefore]
  | [], y :: m => by simp [bytesBefore]
  | x :: l, [] => by simp [bytesBefore]
  | x :: l, y :: m => by
    have ih := before_lt l m
    rw [List.map_cons, List.map_cons, bytesBefore, ih]
    by_cases h1 : x < y
    · have h2 : x.toNat < y.toNat := UInt8.lt_iff_toNat_lt.1 h1
      rw [decide_eq_true h1, decide_eq_true (List.cons_lt_cons_iff.2 (.inl h2))]
      rfl
    · have h2 : ¬ x.toNat < y.toNat := fun h => h1 (UInt8.lt_iff_toNat_lt.2 h)
      rw [decide_eq_false h1, Bool.false_or]
      by_cases h3 : x = y
      · subst h3
        rw [beq_self_eq_true, Bool.true_and]
        by_cases h4 : l.map UInt8.toNat < m.map UInt8.toNat
        · rw [decide_eq_true h4, decide_eq_true (List.cons_lt_cons_iff.2 (.inr ⟨rfl, h4⟩))]
        · rw [decide_eq_false h4, decide_eq_false]
          intro h
          rcases List.cons_lt_cons_iff.1 h with h | h
          · exact h2 h
          · exact h4 h.2
      · rw [beq_eq_false_iff_ne.2 h3, Bool.false_and, decide_eq_false]
        intro h
        rcases List.cons_lt_cons_iff.1 h with h | h
        · exact h2 h
        · exact h3 (UInt8.toNat_inj.1 h.1)
theorem key_before (s t : ByteArray) : (keyL s).before (keyL t) = ltC s t := before_lt s.data.toList t.data.toList
theorem dat_find (fa : Nat → Nat) (nm : ByteArray) (z : DataW Unit) : ∀ l : List (ByteArray × Nat), (datM l fa).atKey (keyL nm) z = match findC l nm with | some n => .lit (.int .i64 ((fa n : Nat) : Int)) | none => z
  | [] => rfl
  | e :: l => by
    have ih := dat_find fa nm z l
    unfold DataW.atKey datM at ih ⊢
    dsimp only at ih ⊢
    rw [List.map_cons, List.find?_cons]
    dsimp only
    rw [key_same]
    unfold findC
    cases h : eqC e.1 nm with
    | true => rfl
    | false => exact ih
theorem dat_less (fa : Nat → Nat) (nm : ByteArray) (l : List (ByteArray × Nat)) : (datM l fa).del (keyL nm) = datM (lessC l nm) fa := by
  unfold datM DataW.del lessC
  dsimp only
  rw [List.filter_map]
  congr 2
  apply List.filter_congr
  intro e _
  show (!(keyL e.1).sameKey (keyL nm)) = _
  rw [key_same]
theorem dat_lay (fa : Nat → Nat) (nm : ByteArray) (f : Nat) : ∀ l : List (ByteArray × Nat), DataW.insert (keyL nm, (.lit (.int .i64 ((fa f : Nat) : Int)) : DataW Unit)) (l.map fun e => (keyL e.1, .lit (.int .i64 ((fa e.2 : Nat) : Int)))) = (layC l nm f).map fun e => (keyL e.1, .lit (.int .i64 ((fa e.2 : Nat) : Int)))
  | [] => rfl
  | e :: l => by
    have ih := dat_lay fa nm f l
    rw [List.map_cons, DataW.insert]
    dsimp only
    rw [key_before]
    unfold layC
    cases h : ltC nm e.1 with
    | true => rfl
    | false =>
      simp only [Bool.false_eq_true, if_false, List.map_cons]
      rw [ih]
theorem dat_put (fa : Nat → Nat) (nm : ByteArray) (f : Nat) (l : List (ByteArray × Nat)) : (datM l fa).put (keyL nm) (.lit (.int .i64 ((fa f : Nat) : Int))) = datM (layC (lessC l nm) nm f) fa := by
  have h := dat_less fa nm l
  unfold datM DataW.del at h
  unfold datM DataW.put
  dsimp only at h ⊢
  injection h with h
  rw [h, dat_lay]
theorem dat_size (fa : Nat → Nat) (l : List (ByteArray × Nat)) : Maps.size (datM l fa) = l.length := by
  show (l.map _).length = _
  rw [List.length_map]
theorem dat_keys (fa : Nat → Nat) (l : List (ByteArray × Nat)) : strKeys (datM l fa) = l.map fun e => e.1.data.toList := by
  show (l.map _).map _ = _
  rw [List.map_map]
  rfl
theorem dat_agree {fa fb : Nat → Nat} {l : List (ByteArray × Nat)} (h : ∀ e ∈ l, fa e.2 = fb e.2) : datM l fa = datM l fb := by
  unfold datM
  congr 1
  apply List.map_congr_left
  intro e he
  rw [h e he]
/-- Names that rise are sorted already. -/
theorem sorted_names {l : List (ByteArray × Nat)} (h : SortC l) {ss : List (List UInt8)} (hp : ss.Perm (l.map fun e => e.1.data.toList)) : (ss.mergeSort leB) = l.map fun e => e.1.data.toList := by
  have tr : ∀ a b c : List UInt8, leB a b = true → leB b c = true → leB a c = true := fun a b c h1 h2 => by simp only [leB, decide_eq_true_eq] at *; exact List.le_trans h1 h2
  have to : ∀ a b : List UInt8, (leB a b || leB b a) = true := fun a b => by simp only [leB, Bool.or_eq_true, decide_eq_true_eq]; exact List.le_total a b
  have hs : (l.map fun e => e.1.data.toList).Pairwise fun a b => leB a b = true := by
    refine List.pairwise_map.2 (h.imp fun {a b} hab => ?_)
    simp only [leB, decide_eq_true_eq]
    refine List.not_lt.1 fun hba => ?_
    have e1 : bytesBefore b.1.data.toList a.1.data.toList = decide (txt b.1 < txt a.1) := before_lt _ _
    have e2 : ∀ (x y : List UInt8), x < y → bytesBefore x y = true := by
      intro x
      induction x with
      | nil => intro y hxy; cases y with
        | nil => exact absurd hxy (List.lt_irrefl _)
        | cons _ _ => rfl
      | cons a x ih => intro y hxy; cases y with
        | nil => cases hxy
        | cons c y =>
          unfold bytesBefore
          rcases List.cons_lt_cons_iff.1 hxy with h | ⟨h1, h2⟩
          · simp [h]
          · subst h1; simp [ih y h2]
    rw [e2 _ _ hba] at e1
    exact List.lt_irrefl _ (List.lt_trans hab (of_decide_eq_true e1.symm))
  refine List.Perm.eq_of_pairwise (le := fun a b => leB a b = true) (fun a b _ _ h1 h2 => ?_) (List.pairwise_mergeSort tr to ss) hs ((List.mergeSort_perm ss leB).trans hp)
  simp only [leB, decide_eq_true_eq] at h1 h2
  exact List.le_antisymm h1 h2
/-! In memory. -/
/-- A map (nil too) that holds these names, each with the pointer of its file. -/
def MapF (w : World) (m : Option Nat) (l : List (ByteArray × Nat)) (fa : Nat → Nat) : Prop :=
  (m = none ∧ l = []) ∨ ∃ b, m = some b ∧ w.ownsMap Try.prog 9 ptrR b l.length (datM l fa)
theorem owns_tight {P : Program} {k : TypeId} {R : Value → Option (DataW Unit × List MemPlace)} {w : World} {b n : Nat} {D : DataW Unit} (h : w.ownsMap P k R b n D) : w.ownsMap P k R b (Maps.size D) D := by
  obtain ⟨es, clock, hb, F, hs, rfl⟩ := h
  refine ⟨es, clock, hb, F, ?_, rfl⟩
  show _ ≤ ((es.toList.map _).foldr DataW.insert []).length
  rw [length_sorted, List.length_map, Array.length_toList]
  exact Nat.le_refl _
theorem owns_dat {w : World} {b n : Nat} {l : List (ByteArray × Nat)} {fa : Nat → Nat} (h : w.ownsMap Try.prog 9 ptrR b n (datM l fa)) : w.ownsMap Try.prog 9 ptrR b l.length (datM l fa) := by
  have := owns_tight h
  rw [dat_size] at this
  exact this
theorem strK : Keyed Try.prog 9 := string_keyed Try.underlying9
theorem keyO (s : ByteArray) (h : s.size ≤ maxLen) : keyOf Try.prog 9 (.string s) = some (keyL s) := Go.WideMaps.keyOf_string_mk Try.underlying9 h
theorem folderU : Try.prog.underlying 44 = some (.map 9 70) := Try.underlying44
theorem zeroP (w : World) : (zeroValue 70).run Try.prog w = .ok (.pointer none) w := by kernel_rfl
theorem MapF.keep {w w' : World} {m : Option Nat} {l : List (ByteArray × Nat)} {fa : Nat → Nat} (h : MapF w m l fa) (hk : ∀ b, m = some b → w'.heap[b]? = w.heap[b]?) : MapF w' m l fa := by
  rcases h with h | ⟨b, hm, es, clock, hb, F, hs, hD⟩
  · exact .inl h
  · exact .inr ⟨b, hm, es, clock, (hk b hm).trans hb, F, hs, hD⟩
theorem MapF.lt {w : World} {m : Option Nat} {l : List (ByteArray × Nat)} {fa : Nat → Nat} (h : MapF w m l fa) : ∀ b, m = some b → b < w.heap.size := by
  rcases h with ⟨h, _⟩ | ⟨b, hm, ho⟩
  · intro b hb; rw [h] at hb; cases hb
  · intro b' hb; rw [hm] at hb; cases hb; exact ho.lt
/-- The block of a map is no row. -/
theorem MapF.block {w : World} {m : Option Nat} {l : List (ByteArray × Nat)} {fa : Nat → Nat} (h : MapF w m l fa) {b : Nat} (hb : m = some b) : ∃ es clock, w.heap[b]? = some (.map es clock) := by
  rcases h with ⟨h, _⟩ | ⟨b', hm, es, clock, hbk, _⟩
  · rw [h] at hb; cases hb
  · rw [hm] at hb; cases hb; exact ⟨es, clock, hbk⟩
theorem MapF.agree {w : World} {m : Option Nat} {l : List (ByteArray × Nat)} {fa fb : Nat → Nat} (h : MapF w m l fa) (ha : ∀ e ∈ l, fa e.2 = fb e.2) : MapF w m l fb := by
  rcases h with h | ⟨b, hm, ho⟩
  · exact .inl h
  · exact .inr ⟨b, hm, by rw [← dat_agree ha]; exact ho⟩
theorem MapF.look {w : World} {m : Option Nat} {l : List (ByteArray × Nat)} {fa : Nat → Nat} (h : MapF w m l fa) (nm : ByteArray) (hn : nm.size ≤ maxLen) : (Instr.lookup 44 (.map m) (.string nm) false).run Try.prog w = .ok (ptrV fa (findC l nm)) w := by
  rcases h with ⟨rfl, rfl⟩ | ⟨b, rfl, ho⟩
  · exact Maps.look_nil false strK folderU (zeroP w) (keyO nm hn)
  · obtain ⟨v, ps, hr, hv⟩ := ho.lookup strK folderU (zeroP w) (zd := .nil) (zp := []) rfl (keyO nm hn)
    rw [dat_find] at hv
    rw [hr]
    cases hf : findC l nm with
    | some n => rw [hf] at hv; rw [ptr_lit hv]; rfl
    | none => rw [hf] at hv; rw [ptr_nil hv]; rfl
theorem MapF.len {w : World} {m : Option Nat} {l : List (ByteArray × Nat)} {fa : Nat → Nat} (h : MapF w m l fa) (ty : TypeId) : (Builtin.len_ #[44] ty #[.map m]).run Try.prog w = .ok (.int .i64 (l.length : Nat)) w := by
  rcases h with ⟨rfl, rfl⟩ | ⟨b, rfl, ho⟩
  · exact Maps.len_nil folderU ty
  · rw [ho.len folderU ty, dat_size]
theorem MapF.made (w : World) (fa : Nat → Nat) : MapF (w.alloc (.map #[] 0)) (some w.heap.size) [] fa := .inr ⟨_, rfl, World.ownsMap_made _ _ _ _⟩
/-! At the operations. -/
section
variable {w : World} {ops : Array Oper} {rest : List Oper} {o : Oper} {a : Act} {Q : Exit → Act → World → Prop}
theorem store_file (hg : o.guard = none) (m x v : Operand) (hop : o.op = Op.mapUpdate 44 m x v) (b : Nat) (l : List (ByteArray × Nat)) (fa : Nat → Nat) (hm : a.eval m = .map (some b)) (h : MapF w (some b) l fa) (hl : l.length < maxLen)
    (nm : ByteArray) (hn : nm.size ≤ maxLen) (f : Nat) (hx : a.eval x = .string nm) (hv : a.eval v = .pointer (some ⟨fa f, 0, none⟩))
    (hK : ∀ w', MapF w' (some b) (layC (lessC l nm) nm f) fa → w.grownBy w' (some b) → w'.heap.size = w.heap.size → wpList Try.prog ops Q rest (a.put o.dst undef) w') : wpList Try.prog ops Q (o :: rest) a w := by
  rcases h with ⟨h, _⟩ | ⟨b', hm', ho⟩
  · cases h
  · cases hm'
    refine wpList_mapUpdate_in w hg m x v 44 hop 9 70 strK folderU ptrR b l.length (datM l fa) hm ho hl _ _ _ hx hv (keyO nm hn) _ _ (ptr_mk (fa f)) ?_
    intro w' h1 h2
    rw [dat_put] at h1
    refine hK w' (.inr ⟨b, rfl, owns_dat h1⟩) h2.grown ?_
    obtain ⟨es, clock, es', clock', hb, rfl⟩ := h2
    simp [setBlock]
theorem drop_file (hg : o.guard = none) (m x : Operand) (hop : o.op = Op.call { callee := Callee.builtin Builtin.delete, args := #[m, x], argTypes := #[44, 9] }) (b : Nat) (l : List (ByteArray × Nat)) (fa : Nat → Nat) (hm : a.eval m = .map (some b)) (h : MapF w (some b) l fa)
    (nm : ByteArray) (hn : nm.size ≤ maxLen) (hx : a.eval x = .string nm)
    (hK : ∀ w', MapF w' (some b) (lessC l nm) fa → w.grownBy w' (some b) → w'.heap.size = w.heap.size → wpList Try.prog ops Q rest (a.put o.dst (.tuple #[])) w') : wpList Try.prog ops Q (o :: rest) a w := by
  rcases h with ⟨h, _⟩ | ⟨b', hm', ho⟩
  · cases h
  · cases hm'
    refine wpList_delete_own w hg m x 44 9 hop 70 strK folderU ptrR b l.length (datM l fa) hm ho _ _ hx (keyO nm hn) ?_
    intro w' h1 h2
    rw [dat_less] at h1
    refine hK w' (.inr ⟨b, rfl, owns_dat h1⟩) h2.grown ?_
    obtain ⟨es, clock, es', clock', hb, rfl⟩ := h2
    simp [setBlock]
end
end Go.Proofs.Ytlhmeebbdjiokaa
