/-
  The program's byName; slices.SortFunc over it; what stands in the row behind it, and what Make makes of it, as the document's answer.
-/
import Derived.Test.YtbfgkogmojnilaaDoorTagPIn
import Derived.Shelf.SlSortCmp.SmallK
namespace Go.Proofs.YtbfgkogmojnilaaDoor
open Go.ChangeShapes Go.WideShapes Go.ChangeAt Go.RowKit
set_option linter.unusedVariables false
set_option linter.unusedSimpArgs false
def cmpT (x y : ByteArray × ByteArray) : Int := Lib.compareBytes x.1.data.toList y.1.data.toList
theorem cmp_neg : ∀ a b : List UInt8, Lib.compareBytes a b < 0 ↔ a.map UInt8.toNat < b.map UInt8.toNat
  | [], [] => by simp [Lib.compareBytes]
  | [], _ :: _ => by simp [Lib.compareBytes]
  | _ :: _, [] => by simp [Lib.compareBytes]
  | x :: a, y :: b => by
    rw [Lib.compareBytes, List.map_cons, List.map_cons, List.cons_lt_cons_iff]
    have e : x = y ↔ x.toNat = y.toNat := UInt8.toNat_inj.symm
    by_cases h1 : x < y
    · rw [if_pos h1]
      exact ⟨fun _ => .inl (UInt8.lt_iff_toNat_lt.1 h1), fun _ => by decide⟩
    · rw [if_neg h1]
      by_cases h2 : y < x
      · rw [if_pos h2]
        have h3 := UInt8.lt_iff_toNat_lt.1 h2
        constructor
        · intro h; exact absurd h (by decide)
        · rintro (h | ⟨h, _⟩) <;> omega
      · rw [if_neg h2, cmp_neg a b]
        have h3 : ¬ x.toNat < y.toNat := fun h => h1 (UInt8.lt_iff_toNat_lt.2 h)
        have h4 : ¬ y.toNat < x.toNat := fun h => h2 (UInt8.lt_iff_toNat_lt.2 h)
        constructor
        · intro h; exact .inr ⟨by omega, h⟩
        · rintro (h | ⟨_, h⟩)
          · omega
          · exact h
theorem lt_of (x y : ByteArray × ByteArray) : ltOf cmpT x y = true ↔ txt x.1 < txt y.1 := by
  unfold ltOf cmpT
  rw [decide_eq_true_eq, cmp_neg]
  rfl
theorem ltF (x y : ByteArray × ByteArray) : ltOf cmpT x y = false ↔ ¬ txt x.1 < txt y.1 := by rw [← lt_of, Bool.not_eq_true]
theorem swoT : Go.Sort.SWO (ltOf cmpT) := {
  irrefl := fun x => (ltF x x).2 (List.lt_irrefl _)
  trans := fun x y z h k => (lt_of x z).2 (List.lt_trans ((lt_of x y).1 h) ((lt_of y z).1 k))
  ntrans := fun x y z h k => by
    rw [ltF] at h k ⊢
    intro e
    rcases list_tri (txt x.1) (txt y.1) with a | a | a
    · exact h a
    · rw [a] at e; exact k e
    · exact k (List.lt_trans a e) }
theorem byname_any (x y : ByteArray × ByteArray) (W : World) : Calls Tryd.prog 22 #[.agg #[.string x.1, .string x.2], .agg #[.string y.1, .string y.2]] W fun e w' => e = .returned (.int .i64 (cmpT x y)) ∧ ∃ q os', w' = Go.Sort.grow (W.drewN q) os' := by
  have H : Hid (∀ V, Calls Tryd.prog 36 #[.string x.1, .string y.1] V fun e w' => e = .returned (.int .i64 (cmpT x y)) ∧ w' = V) := fun V => Tryd.strings_Compare x.1 y.1 V
  generalize cmpT x y = r at *
  go_enter Tryd.func22, Tryd.ntmps22
  go_wp2_with fail
  refine Calls.mono (H.out _) ?_
  rintro _ w1 ⟨rfl, hw⟩
  go_wp2_with fail
  go_ret
  exact ⟨rfl, 0, _, by rw [Go.Sort.alloc_eq_grow, Go.Sort.alloc_eq_grow, Go.Sort.grow_grow]; rfl⟩
theorem encT_one (x : ByteArray × ByteArray) : ∀ v ∈ encT x, v.oneCell' = true := by
  intro v hv
  simp [encT] at hv
  rcases hv with rfl | rfl <;> rfl
theorem sort_any (blk cap : Nat) (d : Array (ByteArray × ByteArray)) (w : World) (hH : Go.Sort.HoldsK encT 2 w blk 0 d) (hblk : blk < w.heap.size) (h12 : d.size ≤ 12) :
    Calls Tryd.prog 21 #[.slice (some ⟨blk, 0, none⟩) d.size cap, .func (.func 22) #[] #[]] w fun e w' => e = .returned (.tuple #[]) ∧ ∃ d' n os, Go.Sort.PermIn 0 d.size d d' ∧ Go.Sort.SortedIn (ltOf cmpT) 0 d.size d' ∧ w' = sortWorldK encT 2 w blk 0 n d' os := by
  have eg : ∀ args w, (callFunc 22 args).run Tryd.prog w = .ok (.enter 22 args) w := enters_of Tryd.func22 (by kernel_rfl) rfl
  exact AnyQ.slices_SortFunc_small_sorted Tryd.sortT 2 Tryd.isAgg40 Tryd.sizeOf40 encT (fun _ => rfl) encT_one cmpT 22 #[] swoT blk 0 cap d w eg
    (fun _ _ _ _ x y => byname_any x y _) hH hblk h12
    (fun n W h => (Tryd.bits_Len n W (by omega) (by omega)).mono fun _ _ ⟨he, hw⟩ => ⟨⟨_, he⟩, hw⟩)
/-- What stands behind the sort. -/
theorem sorted_parts {ts : List (ByteArray × ByteArray)} {d' : Array (ByteArray × ByteArray)} (hp : Go.Sort.PermIn 0 ts.toArray.size ts.toArray d') (hs : Go.Sort.SortedIn (ltOf cmpT) 0 ts.toArray.size d') :
    d'.toList.Perm ts ∧ ∀ i, i + 1 < d'.toList.length → ¬ txt (tagAt d'.toList (i + 1)).1 < txt (tagAt d'.toList i).1 := by
  obtain ⟨h1, -, h3⟩ := hp
  have e1 : d'.extract 0 ts.toArray.size = d' := by rw [← h1]; simp
  have e2 : ts.toArray.extract 0 ts.toArray.size = ts.toArray := by simp
  rw [e1, e2] at h3
  refine ⟨h3, fun i hi => ?_⟩
  have hl : d'.toList.length = d'.size := by simp
  have hb : ∀ j, j < d'.size → d'[j]! = tagAt d'.toList j := fun j hj => by
    rw [← tag_bang _ _ (by omega)]
    simp [hj]
  have := hs i (i + 1) (Nat.zero_le _) (by omega) (by omega)
  rw [hb i (by omega), hb (i + 1) (by omega), ltF] at this
  exact this
theorem rise_of : ∀ l : List (ByteArray × ByteArray), twiceB l = false → (∀ i, i + 1 < l.length → ¬ txt (tagAt l (i + 1)).1 < txt (tagAt l i).1) → Rise l
  | [], _, _ => List.Pairwise.nil
  | [t], _, _ => List.pairwise_singleton _ _
  | t :: u :: l, h, hs => by
    rw [twiceB, Bool.or_eq_false_iff] at h
    have ih := rise_of (u :: l) h.2 (fun i hi => hs (i + 1) (by simpa using hi))
    have h0 := hs 0 (by simp)
    have hne : t.1 ≠ u.1 := fun e => by rw [(eqB_iff t.1 u.1).2 e] at h; cases h.1
    have hlt : txt t.1 < txt u.1 := by
      rcases list_tri (txt t.1) (txt u.1) with a | a | a
      · exact a
      · exact absurd (by rw [← strN_txt t.1, a, strN_txt]) hne
      · exact absurd a h0
    refine List.pairwise_cons.2 ⟨fun v hv => ?_, ih⟩
    rcases List.mem_cons.1 hv with rfl | hv
    · exact hlt
    · exact List.lt_trans hlt ((List.pairwise_cons.1 ih).1 v hv)
theorem twice_dist : ∀ l : List (ByteArray × ByteArray), twiceB l = true → ¬ Dist l
  | [], h, _ => by cases h
  | [_], h, _ => by cases h
  | t :: u :: l, h, hd => by
    rw [twiceB, Bool.or_eq_true] at h
    rcases h with h | h
    · exact (List.pairwise_cons.1 hd).1 u (by simp) ((eqB_iff t.1 u.1).1 h)
    · exact twice_dist (u :: l) h (List.pairwise_cons.1 hd).2
theorem dist_perm {l m : List (ByteArray × ByteArray)} (h : l.Perm m) : Dist l ↔ Dist m := List.Perm.pairwise_iff (fun h e => h e.symm) h
/-- What Make makes of tags in order. -/
theorem make_sorted {ts l : List (ByteArray × ByteArray)} (h8 : ts.length ≤ 8) (hp : l.Perm ts) (hs : ∀ i, i + 1 < l.length → ¬ txt (tagAt l (i + 1)).1 < txt (tagAt l i).1) :
    makeB ts = if twiceB l then .error 8 else if soundB l then .ok l else .error 2 := by
  unfold makeB
  rw [if_neg (show ¬ 8 < ts.length by omega)]
  cases ht : twiceB l with
  | true =>
    cases hm : makeF [] ts with
    | none => rfl
    | some res =>
      obtain ⟨r1, r2⟩ := make_rise ts [] res List.Pairwise.nil hm
      rw [List.nil_append] at r2
      exact absurd ((dist_perm (r2.trans hp.symm)).1 r1.dist) (twice_dist l ht)
  | false =>
    have hr := rise_of l ht hs
    obtain ⟨res, hm⟩ := make_some ts [] (by rw [List.nil_append]; exact (dist_perm hp).1 hr.dist)
    obtain ⟨r1, r2⟩ := make_rise ts [] res List.Pairwise.nil hm
    rw [List.nil_append] at r2
    have e := rise_same l res hr r1 (hp.trans r2.symm)
    rw [hm, e]
    rfl
end Go.Proofs.YtbfgkogmojnilaaDoor
