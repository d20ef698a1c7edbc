/-
  The program's sorted: the names of a map, rising (slices.Sorted and maps.Keys by the library's contracts).
-/
import Derived.Test.YtlhmeebbdjiokaaCabPSize
import Derived.Test.YtlhmeebbdjiokaaShelf
namespace Go.Proofs.Ytlhmeebbdjiokaa
open Go.ChangeShapes Go.WideShapes Go.ChangeAt Go.RowKit Go.Maps Go.MapKept Go.ChangeMaps Go.Sort Go.Shelf
set_option linter.unusedVariables false
set_option linter.unusedSimpArgs false
/-- slices.Sort's two contracts at this dump, at the fence that asks nothing. -/
theorem sortsF (m : Nat) : AnyZ.SortsIn Try.prog Try.sortedF_ren Fence.wide m :=
  ⟨fun blk off cap ss W hH hblk hsz => callsIn_wide.2 (AnyM.slices_Sort_string Try.sortF blk off cap ss W hH hblk hsz),
   fun p cap W => callsIn_wide.2 (AnyM.slices_Sort_string_none Try.sortF p cap W)⟩
theorem keysF_any (mb : Option Nat) (W : World) : CallsIn Fence.wide 5 Try.prog 52 #[.map mb] W fun e w' => e = .returned (.func (.func 59) #[] #[.pointer (some ⟨W.heap.size, 0, none⟩)]) ∧ w' = W.alloc (.cells #[.map mb] 44) :=
  AnyZ.keys_in Try.keysF Fence.wide 5 trivial rfl mb W
set_option maxHeartbeats 1000000 in
theorem sortedF_any {H : Type} (b nn : Nat) (D0 : DataW H) (R : Value → Option (DataW H × List MemPlace)) (w : World) (hown : w.ownsMap Try.prog 9 R b nn D0) (hmax : Maps.size D0 ≤ maxLen) (hbytes : Maps.size D0 * 16 ≤ 140737488355328) :
    CallsIn Fence.wide 5 Try.prog 51 #[.func (.func 59) #[] #[.pointer (some ⟨w.heap.size, 0, none⟩)]] (w.alloc (.cells #[.map (some b)] 44)) fun e w' => ∃ (v : Value) (ss : List (List UInt8)), e = .returned v ∧ ss.Perm (strKeys D0) ∧
      w'.ownsRow (w.alloc (.cells #[.map (some b)] 44)).heap.size 9 1 v ss.length ((ss.mergeSort (fun x y => decide (x ≤ y))).map encStr) ∧ (v = .slice none 0 0 ↔ ss = []) ∧ Go.RowKit.Below (w.alloc (.cells #[.map (some b)] 44)).heap.size (w.alloc (.cells #[.map (some b)] 44)) w' := by
  have hbl := hown.lt
  have hseq : SeqGives Fence.wide 2 Try.prog 59 #[.pointer (some ⟨w.heap.size, 0, none⟩)] encStr (fun ss => ss.Perm (strKeys D0)) (Maps.size D0) (w.alloc (.cells #[.map (some b)] 44)) :=
    AnyZ.keys_gives (ρ := Try.keysF_ren) { Try.keysF with } Fence.wide _ trivial rfl (by omega) w.heap.size b nn D0 _ (by simp) (by simp) (by
      obtain ⟨es, clock, hb, Ft, hs, hD⟩ := hown
      exact ⟨es, clock, (Go.RowKit.Below.heap_alloc _ _ b hbl).trans hb, Ft, hs, hD⟩)
  exact AnyZ.sorted_in Try.sortedF Fence.wide 5 trivial trivial trivial trivial rfl (by omega) (sortsF _) (enters_of Try.func58 (by kernel_rfl) rfl) 59 #[.pointer (some ⟨w.heap.size, 0, none⟩)] trivial (enters_of Try.func59 (by kernel_rfl) rfl) _ _ hmax hbytes _ hseq
set_option maxHeartbeats 1000000 in
theorem sortedF_nil (w : World) :
    CallsIn Fence.wide 5 Try.prog 51 #[.func (.func 59) #[] #[.pointer (some ⟨w.heap.size, 0, none⟩)]] (w.alloc (.cells #[.map none] 44)) fun e w' => ∃ (v : Value) (ss : List (List UInt8)), e = .returned v ∧ ss = [] ∧
      w'.ownsRow (w.alloc (.cells #[.map none] 44)).heap.size 9 1 v ss.length ((ss.mergeSort (fun x y => decide (x ≤ y))).map encStr) ∧ (v = .slice none 0 0 ↔ ss = []) ∧ Go.RowKit.Below (w.alloc (.cells #[.map none] 44)).heap.size (w.alloc (.cells #[.map none] 44)) w' := by
  have hseq : SeqGives Fence.wide 2 Try.prog 59 #[.pointer (some ⟨w.heap.size, 0, none⟩)] encStr (fun ss : List (List UInt8) => ss = []) 0 (w.alloc (.cells #[.map none] 44)) :=
    AnyZ.keys_gives_nil (ρ := Try.keysF_ren) { Try.keysF with } Fence.wide _ trivial rfl w.heap.size _ (by simp) (by simp)
  exact AnyZ.sorted_in Try.sortedF Fence.wide 5 trivial trivial trivial trivial rfl (by omega) (sortsF _) (enters_of Try.func58 (by kernel_rfl) rfl) 59 #[.pointer (some ⟨w.heap.size, 0, none⟩)] trivial (enters_of Try.func59 (by kernel_rfl) rfl) _ 0 (Nat.zero_le _) (by omega) _ hseq
set_option maxHeartbeats 1000000 in
theorem psorted_some (w : World) (b : Nat) (l : List (ByteArray × Nat)) (fa : Nat → Nat) (hown : w.ownsMap Try.prog 9 ptrR b l.length (datM l fa)) (hs : SortC l) (hl : l.length ≤ 1099511627776) :
    Calls Try.prog 33 #[.map (some b)] w fun e w' => ∃ v, e = .returned v ∧ OwnT w' w.heap.size v (l.map (·.1)) ∧ Go.RowKit.Below w.heap.size w w' := by
  have hmax : Maps.size (datM l fa) ≤ maxLen := by rw [dat_size]; unfold maxLen; omega
  have hbytes : Maps.size (datM l fa) * 16 ≤ 140737488355328 := by rw [dat_size]; omega
  have HS : Hid (SortC l) := hs
  have cK := keysF_any
  have cS := sortedF_any b l.length (datM l fa) ptrR w hown hmax hbytes
  refine (callsIn_wide (n := 6)).1 ?_
  have hfK : Fence.wide.fn 52 := trivial
  have hfS : Fence.wide.fn 51 := trivial
  refine callsIn_of_wp Try.func33 rfl trivial ?_ rfl
  simp only [Try.ntmps33, List.size_toArray, List.length_cons, List.length_nil, Nat.reduceAdd, Nat.reduceSub, Array.replicate_succ, Array.replicate_zero, List.push_toArray, List.append_toArray, List.nil_append, List.cons_append]
  gi_wp2_with (first
    | (gi_at_call 52; refine (cK _ _).mono ?_; rintro e w' ⟨rfl, rfl⟩)
    | (gi_at_call 51; refine cS.mono ?_; rintro e w' ⟨v, ss, rfl, hS, hrow, hnil, hb⟩))
  go_ret
  refine ⟨v, rfl, ?_, ((Go.RowKit.Below.refl _ w).alloc (Nat.le_refl _) _).trans (hb.mono (by simp))⟩
  rw [dat_keys] at hS
  have hm := sorted_names HS.out hS
  have hlen : ss.length = l.length := by rw [hS.length_eq, List.length_map]
  have hrow' := ownsRow_base_a (base' := w.heap.size) hrow (by simp)
  unfold OwnT
  have e1 : ((ss.mergeSort (fun x y => decide (x ≤ y))).map encStr) = encS (l.map (·.1)) := by
    show (ss.mergeSort leB).map encStr = _
    rw [hm]
    unfold encS
    rw [List.map_map, List.map_map]
    apply List.map_congr_left
    intro e _
    simp [encStr]
  rw [e1, hlen] at hrow'
  rw [List.length_map]
  exact hrow'
set_option maxHeartbeats 1000000 in
theorem psorted_nil (w : World) : Calls Try.prog 33 #[.map none] w fun e w' => ∃ v, e = .returned v ∧ OwnT w' w.heap.size v [] ∧ Go.RowKit.Below w.heap.size w w' := by
  have cK := keysF_any
  have cS := sortedF_nil w
  refine (callsIn_wide (n := 6)).1 ?_
  have hfK : Fence.wide.fn 52 := trivial
  have hfS : Fence.wide.fn 51 := trivial
  refine callsIn_of_wp Try.func33 rfl trivial ?_ rfl
  simp only [Try.ntmps33, List.size_toArray, List.length_cons, List.length_nil, Nat.reduceAdd, Nat.reduceSub, Array.replicate_succ, Array.replicate_zero, List.push_toArray, List.append_toArray, List.nil_append, List.cons_append]
  gi_wp2_with (first
    | (gi_at_call 52; refine (cK _ _).mono ?_; rintro e w' ⟨rfl, rfl⟩)
    | (gi_at_call 51; refine cS.mono ?_; rintro e w' ⟨v, ss, rfl, hS, hrow, hnil, hb⟩))
  go_ret
  have hv := hnil.2 hS
  subst hv
  exact ⟨_, rfl, ⟨rfl, .inl ⟨rfl, rfl⟩⟩, ((Go.RowKit.Below.refl _ w).alloc (Nat.le_refl _) _).trans (hb.mono (by simp))⟩
theorem psorted_any (w : World) (m : Option Nat) (l : List (ByteArray × Nat)) (fa : Nat → Nat) (h : MapF w m l fa) (hs : SortC l) (hl : l.length ≤ 1099511627776) :
    Calls Try.prog 33 #[.map m] w fun e w' => ∃ v, e = .returned v ∧ OwnT w' w.heap.size v (l.map (·.1)) ∧ Go.RowKit.Below w.heap.size w w' := by
  rcases h with ⟨rfl, rfl⟩ | ⟨b, rfl, ho⟩
  · exact psorted_nil w
  · exact psorted_some w b l fa ho hs hl
/-- maps.Clone: a new map with the same names. -/
theorem pclone_any (w : World) (m : Option Nat) (l : List (ByteArray × Nat)) (fa : Nat → Nat) (h : MapF w m l fa) :
    Calls Try.prog 32 #[.map m] w fun e w' => ∃ m', e = .returned (.map m') ∧ MapF w' m' l fa ∧ (∀ b, m' = some b → w.heap.size ≤ b) ∧ Go.RowKit.Below w.heap.size w w' := by
  rcases h with ⟨rfl, rfl⟩ | ⟨b, rfl, ho⟩
  · have hc := AnyW.maps_Clone_nil Try.cloneM w
    change Calls Try.prog 32 _ _ _ at hc
    exact hc.mono fun e w' ⟨he, hw⟩ => ⟨none, he, .inl ⟨rfl, rfl⟩, fun _ h => (by cases h), by rw [hw]; exact Go.RowKit.Below.refl _ _⟩
  · have hc := AnyW.maps_Clone_owns Try.cloneM 9 ptrR b l.length (datM l fa) w ho
    change Calls Try.prog 32 _ _ _ at hc
    exact hc.mono fun e w' ⟨he, h1, _, hb⟩ => ⟨_, he, .inr ⟨_, rfl, h1⟩, fun b h => by cases h; exact Nat.le_refl _, hb⟩
theorem byteC : (Try.prog.info? 5).map (fun i => (i.zero, i.size, i.bytes)) = some (some (.int .u8 0), 1, 1) := by kernel_rfl
/-- slices.Clone: the same bytes in a row of the call's own. -/
theorem pbytes_any (w : World) (a : Option Addr) (n c : Nat) (xs : List Nat) (h : RowL .u8 w a n xs) (hn : a = none → n = 0) (ha : ∀ ad, a = some ad → ∃ b off, ad = ⟨b, off, none⟩) (hb : n ≤ 140737488355328) :
    Calls Try.prog 35 #[.slice a n c] w fun e w' => ∃ v, e = .returned v ∧ OwnL 5 .u8 w' w.heap.size v xs ∧ Go.RowKit.Below w.heap.size w w' := by
  have hlen := h.1
  cases a with
  | none =>
    have hc := AnyE.slices_Clone_nil Try.cloneB n c w
    change Calls Try.prog 35 _ _ _ at hc
    have hx : xs = [] := List.eq_nil_of_length_eq_zero (by rw [hlen]; exact hn rfl)
    subst hx
    exact hc.mono fun e w' ⟨he, hw⟩ => ⟨_, he, ⟨rfl, .inl ⟨rfl, rfl⟩⟩, by rw [hw]; exact Go.RowKit.Below.refl _ _⟩
  | some ad =>
    obtain ⟨i0, hi, hz0, hz1, hz2⟩ := info_parts byteC
    obtain ⟨b, off, rfl⟩ := ha ad rfl
    have hc := AnyE.slices_Clone Try.cloneB i0 (.int .u8 0) 1 1 hi hz0 hz1 hz2 rfl (by decide) Try.sizeOf5 b off n c (xs.map (encV .u8)) w (by rw [List.length_map, hlen, Nat.mul_one]) (by unfold maxLen; omega) (by omega) (by
      intro j u hj
      have hj' : j < xs.length := by have := (List.getElem?_eq_some_iff.1 hj).1; simpa using this
      rcases h.2 with h0 | ⟨b', off', ha', -, hcell⟩
      · omega
      · cases ha'
        rw [hcell j (by omega)]
        rw [List.getElem?_map, List.getElem?_eq_getElem hj'] at hj
        simp at hj
        rw [← hj]
        simp [hj', encV]) (by
      intro u hu
      obtain ⟨z, _, rfl⟩ := List.mem_map.1 hu
      rfl)
    change Calls Try.prog 35 _ _ _ at hc
    refine hc.mono fun e w' hp => ?_
    obtain ⟨v, he, ho, -, hbl⟩ := hp
    refine ⟨v, he, ?_, hbl⟩
    unfold OwnL
    rw [hlen]
    exact ho
end Go.Proofs.Ytlhmeebbdjiokaa
