/-
  The program's isAddress and Bucket: strings.Split at a point, each piece a number, four of them: just where the document's 'four' says so.
-/
import Derived.Test.YtcmfjfbfoilmfaaDoorLabelJoin
import Derived.Test.YtcmfjfbfoilmfaaDoorShelf
import Derived.Lib.SplitLaws
namespace Go.Proofs.YtcmfjfbfoilmfaaDoor
open Go.ChangeShapes Go.WideShapes Go.ChangeAt Go.RowKit
set_option linter.unusedVariables false
set_option linter.unusedSimpArgs false
theorem four_digs : ∀ (a r : List Nat) (p d : Nat), (∀ c ∈ a, c ≠ 46) → d ≤ 3 → fourF (a ++ r) p d = (digsN a && decide (d + a.length ≤ 3) && fourF r p (d + a.length))
  | [], r, p, d, _, hd => by
    rw [List.nil_append, digsN, List.length_nil, Nat.add_zero, decide_eq_true hd]
    rfl
  | c :: a, r, p, d, h, hd => by
    have hc := h c (by simp)
    rw [List.cons_append, fourF, if_neg hc, digsN]
    by_cases hb : c < 48 ∨ 57 < c ∨ 3 < d + 1
    · rw [if_pos hb]
      rcases hb with hb | hb | hb
      · have : digN c = false := by unfold digN; rw [decide_eq_false (by omega)]; rfl
        rw [this]; rfl
      · have : digN c = false := by unfold digN; rw [decide_eq_false (show ¬ c ≤ 57 by omega)]; simp
        rw [this]; rfl
      · rw [decide_eq_false (show ¬ d + (c :: a).length ≤ 3 by simp; omega)]; simp
    · rw [if_neg hb, four_digs a r p (d + 1) (fun x hx => h x (by simp [hx])) (by omega)]
      have : digN c = true := by unfold digN; rw [decide_eq_true (by omega), decide_eq_true (by omega)]; rfl
      rw [this, List.length_cons, show d + 1 + a.length = d + (a.length + 1) by omega]
      rfl
theorem numb_parts (a : List Nat) : numbN a = (digsN a && decide (a.length ≤ 3) && decide (0 < a.length)) := by
  unfold numbN
  rw [show decide (1 ≤ a.length) = decide (0 < a.length) from rfl]
  cases digsN a <;> cases decide (a.length ≤ 3) <;> cases decide (0 < a.length) <;> rfl
theorem four_end (a : List Nat) (p : Nat) (h : ∀ c ∈ a, c ≠ 46) : fourF a p 0 = (numbN a && (p == 3)) := by
  have := four_digs a [] p 0 h (by omega)
  rw [List.append_nil, Nat.zero_add, fourF] at this
  rw [this, numb_parts]
  cases digsN a <;> cases decide (a.length ≤ 3) <;> cases decide (0 < a.length) <;> simp
theorem four_more (a b : List Nat) (p : Nat) (h : ∀ c ∈ a, c ≠ 46) : fourF (a ++ 46 :: b) p 0 = (numbN a && fourF b (p + 1) 0) := by
  rw [four_digs a _ p 0 h (by omega), Nat.zero_add, fourF, if_pos rfl, numb_parts]
  by_cases h0 : a.length = 0
  · rw [if_pos h0, decide_eq_false (show ¬ 0 < a.length by omega)]
    simp
  · rw [if_neg h0, decide_eq_true (show 0 < a.length by omega)]
    simp
def piecesU (s : List UInt8) : List (List UInt8) := Lib.splitK [46] 0 (Lib.count s [46]) s
theorem occ_one (s : List UInt8) (i : Nat) : Lib.occAt s [46] i = true ↔ s[i]? = some 46 := by
  unfold Lib.occAt
  cases h : s.drop i with
  | nil =>
    have : s.length ≤ i := List.drop_eq_nil_iff.1 h
    simp [List.isPrefixOf, List.getElem?_eq_none this]
  | cons x l =>
    have : s[i]? = some x := by
      have := congrArg (·[0]?) h
      simpa using this
    rw [this]
    simp [List.isPrefixOf]
    exact eq_comm
theorem no_point {s : List UInt8} {i : Nat} (hi : i ≤ s.length) (h : Lib.NoOcc s [46] i) : ∀ c ∈ (s.take i).map UInt8.toNat, c ≠ 46 := by
  intro c hc e
  obtain ⟨x, hx, rfl⟩ := List.mem_map.1 hc
  obtain ⟨j, hj, rfl⟩ := List.getElem_of_mem hx
  rw [List.length_take] at hj
  have h1 := h j (by omega)
  have : Lib.occAt s [46] j = true := (occ_one s j).2 (by
    rw [List.getElem?_eq_getElem (by omega)]
    rw [List.getElem_take] at e
    congr 1
    exact UInt8.toNat_inj.1 e)
  rw [this] at h1
  cases h1
theorem four_pieces : ∀ (n : Nat) (s : List UInt8), s.length ≤ n → ∀ p, fourF (s.map UInt8.toNat) p 0 = ((piecesU s).all (fun t => numbN (t.map UInt8.toNat)) && (p + (piecesU s).length == 4))
  | n, s, hn, p => by
    rcases Lib.index_spec s [46] with ⟨h1, h2⟩ | ⟨i, h1, h2, h3, h4⟩
    · have e : piecesU s = [s] := by unfold piecesU; rw [Lib.count_miss h1, Lib.splitK]
      rw [e, four_end _ _ (by
        have := no_point (Nat.le_refl s.length) (fun j hj => h2 j (by omega))
        rwa [List.take_length] at this)]
      simp
    · have hs : s[i]? = some 46 := (occ_one s i).1 h3
      have hi : i < s.length := (List.getElem?_eq_some_iff.1 hs).1
      have e : piecesU s = s.take i :: piecesU (s.drop (i + 1)) := by
        unfold piecesU
        rw [Lib.count_hit (by simp) h1, show ([46] : List UInt8).length = 1 from rfl, Nat.add_comm 1, Lib.splitK, h1, if_neg (by rw [beq_iff_eq]; omega), Int.toNat_natCast]
        rfl
      have es : s = s.take i ++ 46 :: s.drop (i + 1) := by
        have : s[i] = 46 := by rw [List.getElem?_eq_getElem hi] at hs; exact Option.some.inj hs
        rw [← this, List.getElem_cons_drop, List.take_append_drop]
      have em : s.map UInt8.toNat = (s.take i).map UInt8.toNat ++ 46 :: (s.drop (i + 1)).map UInt8.toNat := by
        conv => lhs; rw [es]
        rw [List.map_append, List.map_cons]
        rfl
      rw [em, four_more _ _ _ (no_point h2 h4), e]
      cases n with
      | zero => omega
      | succ n =>
        rw [four_pieces n (s.drop (i + 1)) (by rw [List.length_drop]; omega) (p + 1), List.all_cons, List.length_cons, show p + 1 + (piecesU (s.drop (i + 1))).length = p + ((piecesU (s.drop (i + 1))).length + 1) by omega]
        rw [Bool.and_assoc]
/-- What the library's variables hold: the two tables of utf8 as Go's text lays them, and in MaxLen whatever number. -/
def Tab6 (w : World) : Prop := Lib.Utf8Tabs 0 1 w ∧ ∃ m, w.cell? ⟨2, 0, none⟩ = some (.int .i64 m)
theorem Tab6.below {w w' : World} (h : Tab6 w) (hb : Below w.heap.size w w') : Tab6 w' := by
  refine ⟨Utf8Tabs_below h.1 hb, ?_⟩
  obtain ⟨m, hm⟩ := h.2
  exact ⟨m, (hb.cell (p := ⟨2, 0, none⟩) (World.block_lt_of_cell? _ _ hm)).trans hm⟩
theorem Tab6.below' {w w' : World} {B : Nat} (h : Tab6 w) (hb : Below B w w') (hB : w.heap.size ≤ B) : Tab6 w' := h.below (hb.mono hB)
def allNum : List ByteArray → Bool
  | [] => true
  | t :: l => numbN (txt t) && allNum l
theorem all_num (l : List ByteArray) : allNum l = (l.map (·.data.toList)).all (fun t => numbN (t.map UInt8.toNat)) := by
  induction l with
  | nil => rfl
  | cons t l ih => rw [allNum, ih, List.map_cons, List.all_cons]; rfl
theorem drop_string (l : List ByteArray) (i : Nat) (h : i < l.length) : l.drop i = l[i] :: l.drop (i + 1) := List.drop_eq_getElem_cons h
set_option maxHeartbeats 1000000 in
theorem addr_any (S : ByteArray) (w : World) (hT : Tab6 w) (hs : S.size ≤ 1048576) :
    Calls Tryd.prog 24 #[.string S] w fun e w' => e = .returned (.bool (fourN (txt S))) ∧ Below w.heap.size w w' := by
  obtain ⟨m, hm⟩ := hT.2
  have HSP := Tryd.strings_Split S (ByteArray.mk #[46]) m w (by omega) hm (by decide)
  have hlen := Lib.splitB_all (ByteArray.mk #[46]) (by decide) 0 _ S rfl
  have hcl : Lib.countB S (ByteArray.mk #[46]) ≤ S.size := Lib.countB_le _ (by decide) S.size S (Nat.le_refl _)
  have HF : Hid (fourN (txt S) = (allNum (Lib.splitB (ByteArray.mk #[46]) 0 (Lib.countB S (ByteArray.mk #[46])) S) && ((Lib.splitB (ByteArray.mk #[46]) 0 (Lib.countB S (ByteArray.mk #[46])) S).length == 4))) := by
    unfold Hid
    rw [all_num, Lib.splitB_data]
    have := four_pieces S.data.toList.length S.data.toList (Nat.le_refl _) 0
    unfold fourN
    rw [show txt S = S.data.toList.map UInt8.toNat from rfl, this]
    have e : (Lib.splitB (ByteArray.mk #[46]) 0 (Lib.countB S (ByteArray.mk #[46])) S).length = (piecesU S.data.toList).length := by
      unfold piecesU
      have := congrArg List.length (Lib.splitB_data (ByteArray.mk #[46]) 0 (Lib.countB S (ByteArray.mk #[46])) S)
      rw [List.length_map] at this
      exact this
    rw [e, Nat.zero_add]
    rfl
  have HPB : Hid (∀ t ∈ Lib.splitB (ByteArray.mk #[46]) 0 (Lib.countB S (ByteArray.mk #[46])) S, t.size ≤ 9223372036854775806) := by
    intro t ht
    have : ∀ (k : Nat) (T : ByteArray), T.size ≤ 1048576 → ∀ t ∈ Lib.splitB (ByteArray.mk #[46]) 0 k T, t.size ≤ 9223372036854775806 := by
      intro k
      induction k with
      | zero => intro T hT t ht; rw [Lib.splitB, List.mem_singleton] at ht; rw [ht]; omega
      | succ k ih =>
        intro T hT t ht
        rw [Lib.splitB] at ht
        split at ht
        · rw [List.mem_singleton] at ht; rw [ht]; omega
        · rcases List.mem_cons.1 ht with rfl | ht
          · rw [ByteArray.size_extract]; omega
          · exact ih _ (by rw [ByteArray.size_extract]; omega) t ht
    exact this _ S hs t ht
  obtain ⟨ps, hps⟩ : ∃ ps, ps = Lib.splitB (ByteArray.mk #[46]) 0 (Lib.countB S (ByteArray.mk #[46])) S := ⟨_, rfl⟩
  obtain ⟨n, hn⟩ : ∃ n, n = Lib.countB S (ByteArray.mk #[46]) + 1 := ⟨_, rfl⟩
  rw [← hps] at HSP hlen HF HPB
  rw [← hn] at hlen
  have hni : ((Lib.countB S (ByteArray.mk #[46]) : Nat) : Int) + 1 = (n : Int) := by omega
  have hnb : n ≤ 1048577 := by omega
  rw [← hn] at HSP
  have HSPH : Hid _ := HSP
  have HLEN : Hid (ps.length = n) := hlen
  clear hps hn hlen hcl HSP hni
  go_enter Tryd.func24, Tryd.ntmps24
  go_wp2_with fail
  refine Calls.mono HSPH.out ?_
  rintro _ w1 ⟨rfl, hw⟩
  have HB1 : Hid (Below w.heap.size w w1) := by unfold Hid; rw [hw]; exact below_new w _
  have HCL : Hid (∀ i (hi : i < ps.length), w1.cell? ⟨w.heap.size, i, none⟩ = some (.string ps[i])) := by
    intro i hi
    rw [hw, cell_of_row _ w.heap.size i _ _ _ (heap_alloc_last w _)]
    simp [hi]
  clear hw HSPH hm
  go_wp2_with fail
  go_loop [9] (fun ix => ∃ i : Nat, i ≤ n ∧ ix = .int .i64 i ∧ fourN (txt S) = (allNum (ps.drop i) && (ps.length == 4))) (fun ix => n - (intOf ix).toNat)
  case atStart => exact ⟨0, Nat.zero_le _, rfl, HF.out⟩
  case round =>
    clear HF
    obtain ⟨i, hi, rfl, hj⟩ := hrel
    have HJ : Hid (fourN (txt S) = (allNum (ps.drop i) && (ps.length == 4))) := hj
    clear hj
    by_cases hlt : i < n
    · have hii : (i : Int) < (n : Int) := by omega
      have hil : i < ps.length := by rw [HLEN.out]; exact hlt
      have hcell := HCL.out i hil
      have HNU : Hid _ := number_any ps[i] w1 (HPB.out _ (List.getElem_mem hil))
      have HST : Hid (fourN (txt S) = (numbN (txt ps[i]) && allNum (ps.drop (i + 1)) && (ps.length == 4))) := by unfold Hid; rw [HJ.out, drop_string ps i hil, allNum]
      generalize ps[i] = T at *
      clear HJ
      go_wp2_with fail
      refine Calls.mono HNU.out ?_
      rintro _ w' ⟨rfl, hw⟩
      replace hw := hw.symm
      subst hw
      clear HNU
      cases hf : numbN (txt T) with
      | true =>
        have HS2 : Hid (fourN (txt S) = (allNum (ps.drop (i + 1)) && (ps.length == 4))) := by unfold Hid; rw [HST.out, hf, Bool.true_and]
        clear hf HST
        go_wp2_with fail
        go_round
        case rel => exact ⟨i + 1, by omega, by go_num, HS2.out⟩
        case measure => simp [intOf]; omega
      | false =>
        have HS2 : Hid (fourN (txt S) = false) := by unfold Hid; rw [HST.out, hf]; rfl
        clear hf HST
        go_wp2_with fail
        go_ret
        exact ⟨by rw [HS2.out]; rfl, HB1.out⟩
    · have hii : ¬ (i : Int) < (n : Int) := by omega
      have HS2 : Hid (fourN (txt S) = ((n : Int) == 4)) := by
        unfold Hid
        rw [HJ.out, HLEN.out, show i = n by omega, ← HLEN.out, List.drop_length, HLEN.out]
        rw [allNum, Bool.true_and]
        by_cases h : n = 4
        · rw [h]; rfl
        · rw [beq_eq_false_iff_ne.2 h]
          symm
          rw [beq_eq_false_iff_ne]
          omega
      go_wp2_with fail
      go_ret
      exact ⟨by rw [HS2.out]; rfl, HB1.out⟩
/-- Bucket, as the document's answer. -/
def bucketN (l : List Nat) : Bool := decide (3 ≤ l.length) && decide (l.length ≤ 63) && joinN l && !fourN l
theorem bucket_iff (l : List Nat) : bucketN l = true ↔ BucketP l := by
  unfold bucketN BucketP
  simp only [Bool.and_eq_true, decide_eq_true_eq, Bool.not_eq_true']
  constructor
  · rintro ⟨⟨⟨h1, h2⟩, h3⟩, h4⟩
    obtain ⟨j1, j2, j3⟩ := (join_body l (by omega)).1 h3
    exact ⟨h1, h2, j1, j2, h4, j3⟩
  · rintro ⟨h1, h2, j1, j2, h4, j3⟩
    exact ⟨⟨⟨h1, h2⟩, (join_body l (by omega)).2 ⟨j1, j2, j3⟩⟩, h4⟩
theorem rbucket_val {l : List Nat} {e : Ending} (h : BucketR l e) : e = .returned (.bool (bucketN l)) := by
  obtain ⟨r, he, hr⟩ := h
  rw [he]
  congr 2
  cases hb : bucketN l with
  | true => exact hr.2 ((bucket_iff l).1 hb)
  | false =>
    cases r with
    | false => rfl
    | true => rw [(bucket_iff l).2 (hr.1 rfl)] at hb; cases hb
set_option maxHeartbeats 1000000 in
theorem bucket_any (S : ByteArray) (w : World) (hT : Tab6 w) (hs : S.size ≤ 9223372036854775806) :
    Calls Tryd.prog 10 #[.string S] w fun e w' => e = .returned (.bool (bucketN (txt S))) ∧ Below w.heap.size w w' := by
  have HTL : Hid ((txt S).length = S.size) := txt_length S
  by_cases h1 : 3 ≤ S.size
  · have i1 : (3 : Int) ≤ (S.size : Int) := by omega
    by_cases h2 : S.size ≤ 63
    · have i2 : (S.size : Int) ≤ 63 := by omega
      have HJ : Hid _ := joined_any S w (by omega)
      have HA : Hid _ := addr_any S w hT (by omega)
      have HB : Hid (bucketN (txt S) = (joinN (txt S) && !fourN (txt S))) := by unfold Hid bucketN; rw [HTL.out, decide_eq_true h1, decide_eq_true h2]; rfl
      rw [HB.out]
      generalize joinN (txt S) = x at *
      generalize fourN (txt S) = y at *
      clear h1 h2 HB
      go_enter Tryd.func10, Tryd.ntmps10
      go_wp2_with fail
      refine Calls.mono HJ.out ?_
      rintro _ w' ⟨rfl, hw⟩
      replace hw := hw.symm
      subst hw
      clear HJ
      cases x with
      | true =>
        go_wp2_with fail
        refine Calls.mono HA.out ?_
        rintro _ w' ⟨rfl, hb⟩
        clear HA
        go_wp2_with fail
        go_ret
        exact ⟨rfl, hb⟩
      | false =>
        go_wp2_with fail
        go_ret
        exact ⟨rfl, Below.refl _ _⟩
    · have i2 : ¬ (S.size : Int) ≤ 63 := by omega
      have HB : Hid (bucketN (txt S) = false) := by unfold Hid bucketN; rw [HTL.out, decide_eq_false h2]; simp
      clear h1 h2
      go_enter Tryd.func10, Tryd.ntmps10
      go_wp2_with fail
      go_ret
      exact ⟨by rw [HB.out]; rfl, Below.refl _ _⟩
  · have i1 : ¬ (3 : Int) ≤ (S.size : Int) := by omega
    have HB : Hid (bucketN (txt S) = false) := by unfold Hid bucketN; rw [HTL.out, decide_eq_false h1]; simp
    clear h1
    go_enter Tryd.func10, Tryd.ntmps10
    go_wp2_with fail
    go_ret
    exact ⟨by rw [HB.out]; rfl, Below.refl _ _⟩
end Go.Proofs.YtcmfjfbfoilmfaaDoor
