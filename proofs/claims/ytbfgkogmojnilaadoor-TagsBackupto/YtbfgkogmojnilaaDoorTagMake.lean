/-
  The document's Make.
-/
import Derived.Test.YtbfgkogmojnilaaDoorTagOwn
import Derived.Test.YtbfgkogmojnilaaDoorTagSound
namespace Go.Proofs.YtbfgkogmojnilaaDoor
open Go.ChangeShapes Go.WideShapes Go.ChangeAt Go.RowKit
set_option linter.unusedVariables false
set_option linter.unusedSimpArgs false
def ltB (s t : ByteArray) : Bool := Op.bytesLess s.toList t.toList
/-- Where a name goes; none, if it is there. -/
def scanB : List (ByteArray × ByteArray) → ByteArray → Nat → Nat → Option Nat
  | [], _, _, p => some p
  | o :: l, nm, k, p => if eqB o.1 nm then none else scanB l nm (k + 1) (if ltB o.1 nm then k + 1 else p)
def makeF (out : List (ByteArray × ByteArray)) : List (ByteArray × ByteArray) → Option (List (ByteArray × ByteArray))
  | [] => some out
  | t :: l => match scanB out t.1 0 0 with
    | none => none
    | some p => makeF (out.take p ++ [t] ++ out.drop p) l
/-- What Make answers: tags, or an error's number. -/
def makeB (ts : List (ByteArray × ByteArray)) : Except Nat (List (ByteArray × ByteArray)) :=
  if 8 < ts.length then .error 9 else match makeF [] ts with
    | none => .error 8
    | some out => if soundB out then .ok out else .error 2
/-- Tags that are told, or none and an error. -/
def TagsR (x : Except Nat (List (ByteArray × ByteArray))) (e : Ending) (w' : World) : Prop := match x with
  | .error E => e = .returned (.tuple #[.slice none 0 0, .int .i64 (E : Nat)])
  | .ok out => ∃ a cap, e = .returned (.tuple #[.slice a out.length cap, .int .i64 0]) ∧ RowT w' a out ∧ out.length ≤ cap
theorem scan_le : ∀ (l : List (ByteArray × ByteArray)) (nm : ByteArray) (k p q : Nat), p ≤ k → scanB l nm k p = some q → q ≤ k + l.length
  | [], nm, k, p, q, h, e => by simp [scanB] at e; subst e; simp; omega
  | o :: l, nm, k, p, q, h, e => by
    rw [scanB] at e
    split at e
    · cases e
    · have := scan_le l nm (k + 1) _ q (by split <;> omega) e
      simp
      omega
theorem make_step (out ts : List (ByteArray × ByteArray)) (t : ByteArray × ByteArray) (p : Nat) (h : scanB out t.1 0 0 = some p) : makeF out (t :: ts) = makeF (out.take p ++ [t] ++ out.drop p) ts := by
  rw [makeF, h]
theorem make_there (out ts : List (ByteArray × ByteArray)) (t : ByteArray × ByteArray) (h : scanB out t.1 0 0 = none) : makeF out (t :: ts) = none := by
  rw [makeF, h]
theorem Short.of {ts us : List (ByteArray × ByteArray)} (h : ∀ u ∈ us, u.1.size ≤ 9223372036854775807 ∧ u.2.size ≤ 9223372036854775807) : Short us := fun i hi => by
  have : tagAt us i = us[i] := by unfold tagAt; rw [List.getD_eq_getElem?_getD, List.getElem?_eq_getElem hi]; rfl
  rw [this]
  exact h _ (List.getElem_mem hi)
theorem Short.mem {ts : List (ByteArray × ByteArray)} (h : Short ts) : ∀ u ∈ ts, u.1.size ≤ 9223372036854775807 ∧ u.2.size ≤ 9223372036854775807 := fun u hu => by
  obtain ⟨i, hi, rfl⟩ := List.getElem_of_mem hu
  have e : tagAt ts i = ts[i] := by unfold tagAt; rw [List.getD_eq_getElem?_getD, List.getElem?_eq_getElem hi]; rfl
  have := h i hi
  rwa [e] at this
theorem slice_to (g off n cap k : Nat) (h : k ≤ cap) (W : World) : (Instr.slice 22 (.slice (some ⟨g, off, none⟩) n cap) none (some (.int .i64 (k : Nat))) none).run Tryd.prog W = .ok (.slice (some ⟨g, off, none⟩) k cap) W := by
  have hz : ∀ w, (sizeOf (Tryd.prog.elem 22)).run Tryd.prog w = .ok 2 w := fun w => by kernel_rfl
  rw [run_slice_h W 22 _ n cap (by kernel_rfl) .i64 (k : Nat) (by omega) (by omega), hz]
  simp [sliced, Addr.add]
theorem slice_from (g off n cap k : Nat) (h : k ≤ n) (hn : n ≤ cap) (W : World) : (Instr.slice 22 (.slice (some ⟨g, off, none⟩) n cap) (some (.int .i64 (k : Nat))) none none).run Tryd.prog W = .ok (.slice (some ⟨g, if cap = k then off else off + k * 2, none⟩) (n - k) (cap - k)) W := by
  have hz : ∀ w, (sizeOf (Tryd.prog.elem 22)).run Tryd.prog w = .ok 2 w := fun w => by kernel_rfl
  rw [run_slice_l W 22 _ n cap (by kernel_rfl) .i64 (k : Nat) (by omega) (by omega), hz]
  by_cases e : cap = k
  · simp [sliced, Addr.add, e]
  · simp [sliced, Addr.add, e]
set_option maxRecDepth 100000 in
set_option maxHeartbeats 16000000 in
theorem rmake_any (a : Option Addr) (len cap : Nat) (ts : List (ByteArray × ByteArray)) (w : World) (ht : RowT w a ts) (hl : ts.length = len) (hlb : len ≤ 9223372036854775806) (hsh : Short ts) :
    Calls Tryd.prog 8 #[.slice a len cap] w fun e w' => TagsR (makeB ts) e w' ∧ Below w.heap.size w w' := by
  by_cases h8 : 8 < len
  · have i8 : (8 : Int) < (len : Int) := by omega
    have HS : Hid (makeB ts = .error 9) := by unfold Hid makeB; rw [if_pos (by omega)]
    clear h8 ht hsh
    go_enter Tryd.func8, Tryd.ntmps8
    go_wp2_with fail
    go_ret2
    exact ⟨by rw [HS.out]; exact rfl, Below.refl _ _⟩
  · have i8 : ¬ (8 : Int) < (len : Int) := by omega
    have HSB : Hid (makeB ts = match makeF [] ts with | none => .error 8 | some out => if soundB out then .ok out else .error 2) := by unfold Hid makeB; rw [if_neg (by omega)]
    have HR : Hid (RowT w a ts) := ht
    have HL : Hid (ts.length = len) := hl
    have HSH : Hid (Short ts) := hsh
    clear ht hl hsh
    go_enter Tryd.func8, Tryd.ntmps8
    go_wp2_with fail
    go_loopw [4, 5] (fun ov ix wr => ∃ (wz : World) (i g oc : Nat) (out : List (ByteArray × ByteArray)), wz = wr ∧ ov = .slice (some ⟨g, 0, none⟩) i oc ∧ ix = .int .i64 i ∧ i ≤ len ∧ out.length = i ∧ i ≤ oc ∧ RowT wz (some ⟨g, 0, none⟩) out ∧ (∀ u ∈ out, u.1.size ≤ 9223372036854775807 ∧ u.2.size ≤ 9223372036854775807) ∧ makeF [] ts = makeF out (ts.drop i) ∧ Below w.heap.size w wz) (fun _ ix _ => len - (intOf ix).toNat)
    case atStart => exact ⟨_, 0, _, 0, [], rfl, rfl, rfl, Nat.zero_le _, rfl, Nat.le_refl _, .inl rfl, (fun u hu => by cases hu), rfl, below_new w _⟩
    case round =>
      obtain ⟨wr, i, g, oc, out, hwr, rfl, rfl, hi, hol, hoc, hrow, hsm, hmk, hbe⟩ := hrel
      subst hwr
      have HOL : Hid (out.length = i) := hol
      have HRO : Hid (RowT wr (some ⟨g, 0, none⟩) out) := hrow
      have HSM : Hid (∀ u ∈ out, u.1.size ≤ 9223372036854775807 ∧ u.2.size ≤ 9223372036854775807) := hsm
      have HMK : Hid (makeF [] ts = makeF out (ts.drop i)) := hmk
      have HBE : Hid (Below w.heap.size w wr) := hbe
      have HRA : Hid (RowT wr a ts) := HR.out.below hbe
      clear hol hrow hsm hmk hbe
      by_cases hlt : i < len
      · have hii : (i : Int) < (len : Int) := by omega
        have hil : i < ts.length := by rw [HL.out]; exact hlt
        rcases HR.out with h0 | ⟨ga, oa, ha, hga, hca⟩
        · omega
        · subst ha
          obtain ⟨ca0, ca1⟩ := hca i hil
          have HCA0 : Hid (w.cell? ⟨ga, oa + i * 2, none⟩ = some (.string (tagAt ts i).1)) := ca0
          have HCA1 : Hid (w.cell? ⟨ga, oa + i * 2 + 1, none⟩ = some (.string (tagAt ts i).2)) := ca1
          have HDC : Hid (ts.drop i = tagAt ts i :: ts.drop (i + 1)) := dropT_cons ts i hil
          have HTS : Hid ((tagAt ts i).1.size ≤ 9223372036854775807 ∧ (tagAt ts i).2.size ≤ 9223372036854775807) := HSH.out i hil
          generalize tagAt ts i = t at *
          clear hca ca0 ca1
          go_wp2_with fail
          go_loopw [6, 7] (fun pv kx wr2 => ∃ (wz : World) (k p m : Nat), wz = wr2 ∧ pv = .int .i64 p ∧ kx = .int .i64 k ∧ k ≤ i ∧ p ≤ k ∧ scanB out t.1 0 0 = scanB (out.drop k) t.1 k p ∧ wz = wr.drewN m) (fun _ kx _ => i - (intOf kx).toNat)
          case atStart => exact ⟨_, 0, 0, 0, rfl, rfl, rfl, Nat.zero_le _, Nat.le_refl _, rfl, rfl⟩
          case round =>
            obtain ⟨wz, k, p, m, hwz, rfl, rfl, hk, hpk, hsc, hwm⟩ := hrel
            subst hwz
            have HSC : Hid (scanB out t.1 0 0 = scanB (out.drop k) t.1 k p) := hsc
            have HWM : Hid (wz = wr.drewN m) := hwm
            have hbz : Below wr.heap.size wr wz := below_some ⟨m, hwm⟩
            have HBZ : Hid (Below w.heap.size w wz) := HBE.out.trans (hbz.mono HBE.out.size)
            have HRO2 : Hid (RowT wz (some ⟨g, 0, none⟩) out) := HRO.out.below hbz
            have ca0 := (HBZ.out.cell (p := ⟨ga, oa + i * 2, none⟩) hga).trans HCA0.out
            clear hsc hwm hbz
            by_cases hkl : k < i
            · have hki : (k : Int) < (i : Int) := by omega
              have hko : k < out.length := by rw [HOL.out]; exact hkl
              rcases HRO2.out with h0 | ⟨g', off', ha', hg', hco⟩
              · omega
              · cases ha'
                obtain ⟨co0, co1⟩ := hco k hko
                rw [Nat.zero_add] at co0
                have HST : Hid (scanB out t.1 0 0 = if eqB (tagAt out k).1 t.1 then none else scanB (out.drop (k + 1)) t.1 (k + 1) (if ltB (tagAt out k).1 t.1 then k + 1 else p)) := by unfold Hid; rw [HSC.out, dropT_cons out k hko, scanB]
                generalize tagAt out k = u at *
                have heq := str_same u.1 t.1
                have hlt2 : Op.bytesLess u.1.toList t.1.toList = ltB u.1 t.1 := rfl
                clear hco co1 HSC
                cases he : eqB u.1 t.1 with
                | true =>
                  rw [he] at heq
                  have HS2 : Hid (makeB ts = .error 8) := by
                    unfold Hid
                    rw [HSB.out, HMK.out, HDC.out, make_there _ _ _ (by rw [HST.out, he]; rfl)]
                  clear HST he hlt2
                  go_wp2_with fail
                  go_quiet (fail)
                  have HB : Hid (Below w.heap.size w (wz.drewN nq)) := below_drew HBZ.out nq
                  generalize wz.drewN nq = wd at *
                  go_wp2_with fail
                  go_ret2
                  exact ⟨by rw [HS2.out]; exact rfl, HB.out⟩
                | false =>
                  rw [he] at heq
                  cases hq : ltB u.1 t.1 with
                  | true =>
                    rw [hq] at hlt2
                    have HS2 : Hid (scanB out t.1 0 0 = scanB (out.drop (k + 1)) t.1 (k + 1) (k + 1)) := by unfold Hid; rw [HST.out, he, hq]; rfl
                    clear HST he hq
                    go_wp2_with fail
                    go_quiet (fail)
                    replace co0 : (wz.drewN nq).cell? ⟨g, k * 2, none⟩ = some (.string u.1) := co0
                    replace ca0 : (wz.drewN nq).cell? ⟨ga, oa + i * 2, none⟩ = some (.string t.1) := ca0
                    have HB : Hid (wz.drewN nq = wr.drewN (m + nq)) := by unfold Hid; rw [HWM.out, drewN_add]
                    obtain ⟨n1, hn1⟩ : ∃ n1, n1 = m + nq := ⟨_, rfl⟩
                    rw [← hn1] at HB
                    clear hn1
                    generalize wz.drewN nq = wd at *
                    go_wp2_with fail
                    go_quiet (fail)
                    have HB2 : Hid (wd.drewN nq = wr.drewN (n1 + nq)) := by unfold Hid; rw [HB.out, drewN_add]
                    go_wp2_with fail
                    go_roundw
                    case rel => exact ⟨_, k + 1, k + 1, _, rfl, by go_num, by go_num, by omega, Nat.le_refl _, HS2.out, HB2.out⟩
                    case measure => simp [intOf]; omega
                  | false =>
                    rw [hq] at hlt2
                    have HS2 : Hid (scanB out t.1 0 0 = scanB (out.drop (k + 1)) t.1 (k + 1) p) := by unfold Hid; rw [HST.out, he, hq]; rfl
                    clear HST he hq
                    go_wp2_with fail
                    go_quiet (fail)
                    replace co0 : (wz.drewN nq).cell? ⟨g, k * 2, none⟩ = some (.string u.1) := co0
                    replace ca0 : (wz.drewN nq).cell? ⟨ga, oa + i * 2, none⟩ = some (.string t.1) := ca0
                    have HB : Hid (wz.drewN nq = wr.drewN (m + nq)) := by unfold Hid; rw [HWM.out, drewN_add]
                    obtain ⟨n1, hn1⟩ : ∃ n1, n1 = m + nq := ⟨_, rfl⟩
                    rw [← hn1] at HB
                    clear hn1
                    generalize wz.drewN nq = wd at *
                    go_wp2_with fail
                    go_quiet (fail)
                    have HB2 : Hid (wd.drewN nq = wr.drewN (n1 + nq)) := by unfold Hid; rw [HB.out, drewN_add]
                    go_wp2_with fail
                    go_roundw
                    case rel => exact ⟨_, k + 1, p, _, rfl, rfl, by go_num, by omega, by omega, HS2.out, HB2.out⟩
                    case measure => simp [intOf]; omega
            · have hki : ¬ (k : Int) < (i : Int) := by omega
              have HPS : Hid (scanB out t.1 0 0 = some p) := by
                unfold Hid
                rw [HSC.out, show k = out.length by rw [HOL.out]; omega, List.drop_length, scanB]
              have hpo : p ≤ i := by omega
              have HM2 : Hid (makeF [] ts = makeF (out.take p ++ [t] ++ out.drop p) (ts.drop (i + 1))) := by
                unfold Hid
                rw [HMK.out, HDC.out, make_step _ _ _ p HPS.out]
              have s1 : ∀ W, _ := slice_to g 0 i oc p (by omega)
              have s2 : ∀ W, _ := slice_from g 0 i oc p hpo hoc
              have ca1 := (HBZ.out.cell (p := ⟨ga, oa + i * 2 + 1, none⟩) hga).trans HCA1.out
              have hbsz := HBZ.out.size
              obtain ⟨og, hog⟩ : ∃ og, og = if oc = p then 0 else 0 + p * 2 := ⟨_, rfl⟩
              rw [← hog] at s2
              have HRT0 : Hid (RowT wz (some ⟨g, 0, none⟩) out) := HRO2.out
              have HRT : Hid (RowT wz (some ⟨g, 0, none⟩) (out.take p)) := HRO2.out.take p
              have HRD : Hid (RowT wz (some ⟨g, og, none⟩) (out.drop p)) := by
                unfold Hid
                rw [hog]
                split
                · exact .inl (by rw [List.length_drop, HOL.out]; omega)
                · exact HRO2.out.drop p
              clear hog HSC HPS HMK HRO2
              go_wp2_with fail
              refine wp_region_held_drew (S := fun w' => Below w.heap.size w w') (by kernel_rfl) (Below.drew HBZ.out) (fun hHeld => ?_)
              refine held_take 1 (some 49) (.slice (some ⟨g, 0, none⟩) i oc) rfl rfl (by kernel_rfl) (by kernel_rfl) (by kernel_rfl) (fun _ _ _ h => h) rfl (fun w' hS => ?_) hHeld ?_
              · clear hS; go_simp
              try simp only [Act.put, List.setIfInBounds_toArray, List.set_cons_zero, List.set_cons_succ]
              refine held_take 2 (some 50) (.int .i64 (p : Nat)) rfl rfl (by kernel_rfl) (by kernel_rfl) (by kernel_rfl) (fun _ _ _ h => h) rfl (fun w' hS => ?_) hHeld ?_
              · clear hS; go_simp
              try simp only [Act.put, List.setIfInBounds_toArray, List.set_cons_zero, List.set_cons_succ]
              refine held_take 3 (some 51) (.slice (some ⟨g, 0, none⟩) p oc) rfl rfl (by kernel_rfl) (by kernel_rfl) (by kernel_rfl) (fun _ _ _ h => h) rfl (fun w' hS => ?_) hHeld ?_
              · clear hS; go_simp
              try simp only [Act.put, List.setIfInBounds_toArray, List.set_cons_zero, List.set_cons_succ]
              refine held_take 5 (some 53) (.slice (some ⟨ga, oa, none⟩) len cap) rfl rfl (by kernel_rfl) (by kernel_rfl) (by kernel_rfl) (fun _ _ _ h => h) rfl (fun w' hS => ?_) hHeld ?_
              · clear hS; go_simp
              try simp only [Act.put, List.setIfInBounds_toArray, List.set_cons_zero, List.set_cons_succ]
              refine held_take 6 (some 54) (.int .i64 (i : Nat)) rfl rfl (by kernel_rfl) (by kernel_rfl) (by kernel_rfl) (fun _ _ _ h => h) rfl (fun w' hS => ?_) hHeld ?_
              · clear hS; go_simp
              try simp only [Act.put, List.setIfInBounds_toArray, List.set_cons_zero, List.set_cons_succ]
              refine held_take 7 (some 55) (.pointer (some ⟨ga, oa + i * 2, none⟩)) rfl rfl (by kernel_rfl) (by kernel_rfl) (by kernel_rfl) (fun _ _ _ h => h) rfl (fun w' hS => ?_) hHeld ?_
              · clear hS; go_simp
              try simp only [Act.put, List.setIfInBounds_toArray, List.set_cons_zero, List.set_cons_succ]
              refine held_take 8 (some 56) (.agg #[.string t.1, .string t.2]) rfl rfl (by kernel_rfl) (by kernel_rfl) (by kernel_rfl) (fun _ _ _ h => h) rfl (fun w' hS => ?_) hHeld ?_
              · have e0 := (hS.cell (p := ⟨ga, oa + i * 2, none⟩) hga).trans HCA0.out; have e1 := (hS.cell (p := ⟨ga, oa + i * 2 + 1, none⟩) hga).trans HCA1.out; clear hS ca0 ca1; go_simp
              try simp only [Act.put, List.setIfInBounds_toArray, List.set_cons_zero, List.set_cons_succ]
              refine held_take 11 (some 59) (.slice (some ⟨g, 0, none⟩) i oc) rfl rfl (by kernel_rfl) (by kernel_rfl) (by kernel_rfl) (fun _ _ _ h => h) rfl (fun w' hS => ?_) hHeld ?_
              · clear hS; go_simp
              try simp only [Act.put, List.setIfInBounds_toArray, List.set_cons_zero, List.set_cons_succ]
              refine held_take 12 (some 60) (.int .i64 (p : Nat)) rfl rfl (by kernel_rfl) (by kernel_rfl) (by kernel_rfl) (fun _ _ _ h => h) rfl (fun w' hS => ?_) hHeld ?_
              · clear hS; go_simp
              try simp only [Act.put, List.setIfInBounds_toArray, List.set_cons_zero, List.set_cons_succ]
              refine held_take 13 (some 61) (.slice (some ⟨g, og, none⟩) (i - p) (oc - p)) rfl rfl (by kernel_rfl) (by kernel_rfl) (by kernel_rfl) (fun _ _ _ h => h) rfl (fun w' hS => ?_) hHeld ?_
              · clear hS; go_simp
              try simp only [Act.put, List.setIfInBounds_toArray, List.set_cons_zero, List.set_cons_succ]
              have hV0 : RowT wz.drew (some ⟨g, 0, none⟩) (out.take p) := HRT.out
              have hV1 : RowT wz.drew (some ⟨g, og, none⟩) (out.drop p) := HRD.out
              have hgl : g < wz.drew.heap.size ∨ out.length = 0 := by
                rcases HRT0.out with h | ⟨b, off, hb, hlt, -⟩
                · exact .inr h
                · cases hb; exact .inl hlt
              generalize wz.drew = wv at hHeld hV0 hV1 hgl ⊢
              refine held_two (i := 0) (j := 9) (by kernel_rfl) rfl rfl rfl rfl (fun K hK => ?_) (fun K hK => ?_)
              · go_simp
                have hS0 : Below w.heap.size w (wv.alloc (Obj.cells #[] 40)) := hHeld.alloc hHeld.size _
                refine hK.out _ _ hS0 ?_
                clear hK K
                have hO0 : OwnT (wv.alloc (Obj.cells #[] 40)) wv.heap.size (.slice (some ⟨wv.heap.size, 0, none⟩) 0 0) [] := OwnT.empty wv wv.heap.size (Nat.le_refl _)
                have hW0 : Below wv.heap.size wv (wv.alloc (Obj.cells #[] 40)) := below_new wv _
                have hz0 : wv.heap.size < (wv.alloc (Obj.cells #[] 40)).heap.size := by simp
                have hA0 : RowT (wv.alloc (Obj.cells #[] 40)) (some ⟨g, 0, none⟩) (out.take p) := hV0.below hW0
                have hD0 : RowT (wv.alloc (Obj.cells #[] 40)) (some ⟨g, og, none⟩) (out.drop p) := hV1.below hW0
                generalize wv.alloc (Obj.cells #[] 40) = w0 at *
                refine held_two (i := 4) (j := 9) (by kernel_rfl) rfl rfl rfl rfl (fun K hK => ?_) (fun K hK => ?_)
                · refine appendT_at w0 _ _ rfl wv.heap.size _ [] (out.take p) rfl hO0 ⟨g, 0, none⟩ p oc rfl hA0 (by rw [List.length_take, HOL.out]; omega) (by simp; omega) (by omega) (some 52) rfl ?_
                  intro v4 w4 hO4 hb4 hg4
                  rw [List.nil_append] at hO4
                  have hS4 : Below w.heap.size w w4 := hS0.trans (hb4.mono hHeld.size)
                  refine hK.out _ _ hS4 ?_
                  clear hK K
                  try simp only [Act.put, List.setIfInBounds_toArray, List.set_cons_zero, List.set_cons_succ]
                  refine held_one (i := 9) (by kernel_rfl) rfl rfl (fun K hK => ?_)
                  go_simp
                  have hwB : w.heap.size ≤ wv.heap.size := hHeld.size
                  have hb4s := hb4.size
                  have hSX : Below w.heap.size w (w4.alloc (Obj.cells #[Value.string t.1, Value.string t.2] 40)) := hS4.alloc hS4.size _
                  refine hK.out _ _ hSX ?_
                  clear hK K
                  have hT := rowT_new w4 t
                  have hO : OwnT (w4.alloc (Obj.cells #[Value.string t.1, Value.string t.2] 40)) wv.heap.size v4 (out.take p) := hO4.alloc _
                  have hD4 : RowT w4 (some ⟨g, og, none⟩) (out.drop p) := hD0.keep hb4 (by rcases hgl with h | h; exact .inr h; exact .inl (by rw [List.length_drop]; omega)) hb4.size
                  have hD : RowT (w4.alloc (Obj.cells #[Value.string t.1, Value.string t.2] 40)) (some ⟨g, og, none⟩) (out.drop p) := hD4.below (below_new w4 _)
                  have hBX : wv.heap.size ≤ (w4.alloc (Obj.cells #[Value.string t.1, Value.string t.2] 40)).heap.size := by simp; omega
                  have hgB : out.length = 0 ∨ g < wv.heap.size := by rcases hgl with h | h; exact .inr h; exact .inl h
                  generalize hN : w4.heap.size = N at *
                  generalize w4.alloc (Obj.cells #[Value.string t.1, Value.string t.2] 40) = X at *
                  generalize wv.heap.size = B at *
                  clear hN hS4 hO4 hb4 hg4 hD4 hb4s hS0 hO0 hW0 hA0 hD0
                  have hS' := hSX
                  refine held_one (i := 10) (by kernel_rfl) rfl rfl (fun K hK => ?_)
                  refine appendT_at X _ _ rfl B v4 (out.take p) [t] rfl hO ⟨N, 0, none⟩ 1 1 rfl hT rfl (by rw [List.length_take]; omega) hBX (some 58) rfl ?_
                  intro v5 X5 hO5 hb5 hg5
                  have hS5 : Below w.heap.size w X5 := hSX.trans (hb5.mono hwB)
                  have hB5 : B ≤ X5.heap.size := Nat.le_trans hBX hb5.size
                  have hD5 : RowT X5 (some ⟨g, og, none⟩) (out.drop p) := hD.keep hb5 (by rcases hgB with h | h; exact .inl (by rw [List.length_drop]; omega); exact .inr h) hb5.size
                  refine hK.out _ _ hS5 ?_
                  clear hK K hO hT hD hb5 hg5 hS'
                  try simp only [Act.put, List.setIfInBounds_toArray, List.set_cons_zero, List.set_cons_succ]
                  refine held_one (i := 14) (by kernel_rfl) rfl rfl (fun K hK => ?_)
                  refine appendT_at X5 _ _ rfl B v5 (out.take p ++ [t]) (out.drop p) rfl hO5 ⟨g, og, none⟩ (i - p) (oc - p) rfl hD5 (by rw [List.length_drop, HOL.out]) (by rw [List.length_append, List.length_take]; simp; omega) hB5 (some 62) rfl ?_
                  intro v6 X6 hO6 hb6 hg6
                  have hS6 : Below w.heap.size w X6 := hS5.trans (hb6.mono hwB)
                  refine hK.out _ _ hS6 ?_
                  clear hK K hO5 hD5 hb6 hg6
                  have hln : (out.take p ++ [t] ++ out.drop p).length = i + 1 := by rw [List.length_append, List.length_append, List.length_take, List.length_drop, HOL.out]; simp; omega
                  obtain ⟨a6, c6, hv6, hr6, hl6, -, hn6⟩ := hO6.row
                  obtain ⟨g6, ha6, hg6, -⟩ := hn6 (by intro e; rw [e] at hln; simp at hln)
                  subst ha6
                  rw [hln] at hv6 hl6
                  subst hv6
                  try simp only [Act.put, List.setIfInBounds_toArray, List.set_cons_zero, List.set_cons_succ]
                  refine held_take 15 (some 4) (.slice (some ⟨g6, 0, none⟩) (i + 1) c6) rfl rfl (by kernel_rfl) (by kernel_rfl) (by kernel_rfl) (fun _ _ _ h => h) rfl (fun w' hS => ?_) hS6 ?_
                  · clear hS; go_simp
                  try simp only [Act.put, List.setIfInBounds_toArray, List.set_cons_zero, List.set_cons_succ]
                  refine wpAnyH_done (by kernel_rfl) ?_ _
                  go_simp
                  go_wp2_with fail
                  go_roundw
                  case rel =>
                    refine ⟨X6, i + 1, g6, c6, out.take p ++ [t] ++ out.drop p, rfl, rfl, by go_num, by omega, hln, hl6, hr6, fun u hu => ?_, HM2.out, hS6⟩
                    rcases List.mem_append.1 hu with hu | hu
                    · rcases List.mem_append.1 hu with hu | hu
                      · exact HSM.out u (List.mem_of_mem_take hu)
                      · rw [List.mem_singleton] at hu
                        rw [hu]
                        exact HTS.out
                    · exact HSM.out u (List.mem_of_mem_drop hu)
                  case measure => simp [intOf]; omega
                · go_simp
                  have hS9 : Below w.heap.size w (w0.alloc (Obj.cells #[Value.string t.1, Value.string t.2] 40)) := hS0.alloc hS0.size _
                  refine hK.out _ _ hS9 ?_
                  clear hK K
                  have hT9 := rowT_new w0 t
                  have hO9 : OwnT (w0.alloc (Obj.cells #[Value.string t.1, Value.string t.2] 40)) wv.heap.size (.slice (some ⟨wv.heap.size, 0, none⟩) 0 0) [] := hO0.alloc _
                  have hA9 : RowT (w0.alloc (Obj.cells #[Value.string t.1, Value.string t.2] 40)) (some ⟨g, 0, none⟩) (out.take p) := hA0.below (below_new w0 _)
                  have hD9 : RowT (w0.alloc (Obj.cells #[Value.string t.1, Value.string t.2] 40)) (some ⟨g, og, none⟩) (out.drop p) := hD0.below (below_new w0 _)
                  have hz9 : w0.heap.size < (w0.alloc (Obj.cells #[Value.string t.1, Value.string t.2] 40)).heap.size := by simp
                  generalize w0.alloc (Obj.cells #[Value.string t.1, Value.string t.2] 40) = w9 at *
                  refine held_one (i := 4) (by kernel_rfl) rfl rfl (fun K hK => ?_)
                  refine appendT_at w9 _ _ rfl wv.heap.size _ [] (out.take p) rfl hO9 ⟨g, 0, none⟩ p oc rfl hA9 (by rw [List.length_take, HOL.out]; omega) (by simp; omega) (by omega) (some 52) rfl ?_
                  intro v4 X hO hb4 hg4
                  rw [List.nil_append] at hO
                  have hwB : w.heap.size ≤ wv.heap.size := hHeld.size
                  have hSX : Below w.heap.size w X := hS9.trans (hb4.mono hwB)
                  refine hK.out _ _ hSX ?_
                  clear hK K
                  have hT : RowT X (some ⟨w0.heap.size, 0, none⟩) [t] := hT9.grown hg4 hb4.size (fun g' off' e => by cases e; intro e; have e' : some w0.heap.size = some wv.heap.size := e; have := Option.some.inj e'; omega)
                  have hD : RowT X (some ⟨g, og, none⟩) (out.drop p) := hD9.keep hb4 (by rcases hgl with h | h; exact .inr h; exact .inl (by rw [List.length_drop]; omega)) hb4.size
                  have hBX : wv.heap.size ≤ X.heap.size := by have := hb4.size; omega
                  have hgB : out.length = 0 ∨ g < wv.heap.size := by rcases hgl with h | h; exact .inr h; exact .inl h
                  generalize hN : w0.heap.size = N at *
                  generalize wv.heap.size = B at *
                  clear hN hS9 hO9 hT9 hA9 hD9 hb4 hg4 hS0 hO0 hW0 hA0 hD0
                  try simp only [Act.put, List.setIfInBounds_toArray, List.set_cons_zero, List.set_cons_succ]
                  have hS' := hSX
                  refine held_one (i := 10) (by kernel_rfl) rfl rfl (fun K hK => ?_)
                  refine appendT_at X _ _ rfl B v4 (out.take p) [t] rfl hO ⟨N, 0, none⟩ 1 1 rfl hT rfl (by rw [List.length_take]; omega) hBX (some 58) rfl ?_
                  intro v5 X5 hO5 hb5 hg5
                  have hS5 : Below w.heap.size w X5 := hSX.trans (hb5.mono hwB)
                  have hB5 : B ≤ X5.heap.size := Nat.le_trans hBX hb5.size
                  have hD5 : RowT X5 (some ⟨g, og, none⟩) (out.drop p) := hD.keep hb5 (by rcases hgB with h | h; exact .inl (by rw [List.length_drop]; omega); exact .inr h) hb5.size
                  refine hK.out _ _ hS5 ?_
                  clear hK K hO hT hD hb5 hg5 hS'
                  try simp only [Act.put, List.setIfInBounds_toArray, List.set_cons_zero, List.set_cons_succ]
                  refine held_one (i := 14) (by kernel_rfl) rfl rfl (fun K hK => ?_)
                  refine appendT_at X5 _ _ rfl B v5 (out.take p ++ [t]) (out.drop p) rfl hO5 ⟨g, og, none⟩ (i - p) (oc - p) rfl hD5 (by rw [List.length_drop, HOL.out]) (by rw [List.length_append, List.length_take]; simp; omega) hB5 (some 62) rfl ?_
                  intro v6 X6 hO6 hb6 hg6
                  have hS6 : Below w.heap.size w X6 := hS5.trans (hb6.mono hwB)
                  refine hK.out _ _ hS6 ?_
                  clear hK K hO5 hD5 hb6 hg6
                  have hln : (out.take p ++ [t] ++ out.drop p).length = i + 1 := by rw [List.length_append, List.length_append, List.length_take, List.length_drop, HOL.out]; simp; omega
                  obtain ⟨a6, c6, hv6, hr6, hl6, -, hn6⟩ := hO6.row
                  obtain ⟨g6, ha6, hg6, -⟩ := hn6 (by intro e; rw [e] at hln; simp at hln)
                  subst ha6
                  rw [hln] at hv6 hl6
                  subst hv6
                  try simp only [Act.put, List.setIfInBounds_toArray, List.set_cons_zero, List.set_cons_succ]
                  refine held_take 15 (some 4) (.slice (some ⟨g6, 0, none⟩) (i + 1) c6) rfl rfl (by kernel_rfl) (by kernel_rfl) (by kernel_rfl) (fun _ _ _ h => h) rfl (fun w' hS => ?_) hS6 ?_
                  · clear hS; go_simp
                  try simp only [Act.put, List.setIfInBounds_toArray, List.set_cons_zero, List.set_cons_succ]
                  refine wpAnyH_done (by kernel_rfl) ?_ _
                  go_simp
                  go_wp2_with fail
                  go_roundw
                  case rel =>
                    refine ⟨X6, i + 1, g6, c6, out.take p ++ [t] ++ out.drop p, rfl, rfl, by go_num, by omega, hln, hl6, hr6, fun u hu => ?_, HM2.out, hS6⟩
                    rcases List.mem_append.1 hu with hu | hu
                    · rcases List.mem_append.1 hu with hu | hu
                      · exact HSM.out u (List.mem_of_mem_take hu)
                      · rw [List.mem_singleton] at hu
                        rw [hu]
                        exact HTS.out
                    · exact HSM.out u (List.mem_of_mem_drop hu)
                  case measure => simp [intOf]; omega
              · go_simp
                have hS9 : Below w.heap.size w (wv.alloc (Obj.cells #[Value.string t.1, Value.string t.2] 40)) := hHeld.alloc hHeld.size _
                refine hK.out _ _ hS9 ?_
                clear hK K
                have hT9 := rowT_new wv t
                have hA9 : RowT (wv.alloc (Obj.cells #[Value.string t.1, Value.string t.2] 40)) (some ⟨g, 0, none⟩) (out.take p) := hV0.below (below_new wv _)
                have hD9 : RowT (wv.alloc (Obj.cells #[Value.string t.1, Value.string t.2] 40)) (some ⟨g, og, none⟩) (out.drop p) := hV1.below (below_new wv _)
                have hz9 : wv.heap.size < (wv.alloc (Obj.cells #[Value.string t.1, Value.string t.2] 40)).heap.size := by simp
                generalize wv.alloc (Obj.cells #[Value.string t.1, Value.string t.2] 40) = w9 at *
                refine held_one (i := 0) (by kernel_rfl) rfl rfl (fun K hK => ?_)
                go_simp
                have hS0 : Below w.heap.size w (w9.alloc (Obj.cells #[] 40)) := hS9.alloc hS9.size _
                refine hK.out _ _ hS0 ?_
                clear hK K
                have hO0 : OwnT (w9.alloc (Obj.cells #[] 40)) w9.heap.size (.slice (some ⟨w9.heap.size, 0, none⟩) 0 0) [] := OwnT.empty w9 w9.heap.size (Nat.le_refl _)
                have hW0 : Below w9.heap.size w9 (w9.alloc (Obj.cells #[] 40)) := below_new w9 _
                have hz0 : w9.heap.size < (w9.alloc (Obj.cells #[] 40)).heap.size := by simp
                have hA0 : RowT (w9.alloc (Obj.cells #[] 40)) (some ⟨g, 0, none⟩) (out.take p) := hA9.below hW0
                have hD0 : RowT (w9.alloc (Obj.cells #[] 40)) (some ⟨g, og, none⟩) (out.drop p) := hD9.below hW0
                have hT0 : RowT (w9.alloc (Obj.cells #[] 40)) (some ⟨wv.heap.size, 0, none⟩) [t] := hT9.below hW0
                generalize w9.alloc (Obj.cells #[] 40) = w0 at *
                refine held_one (i := 4) (by kernel_rfl) rfl rfl (fun K hK => ?_)
                refine appendT_at w0 _ _ rfl w9.heap.size _ [] (out.take p) rfl hO0 ⟨g, 0, none⟩ p oc rfl hA0 (by rw [List.length_take, HOL.out]; omega) (by simp; omega) (by omega) (some 52) rfl ?_
                intro v4 X hO hb4 hg4
                rw [List.nil_append] at hO
                have hwB : w.heap.size ≤ w9.heap.size := by have := hHeld.size; omega
                have hSX : Below w.heap.size w X := hS0.trans (hb4.mono hwB)
                refine hK.out _ _ hSX ?_
                clear hK K
                have hT : RowT X (some ⟨wv.heap.size, 0, none⟩) [t] := hT0.keep hb4 (.inr (by omega)) hb4.size
                have hD : RowT X (some ⟨g, og, none⟩) (out.drop p) := hD0.keep hb4 (by rcases hgl with h | h; exact .inr (by omega); exact .inl (by rw [List.length_drop]; omega)) hb4.size
                have hBX : w9.heap.size ≤ X.heap.size := by have := hb4.size; omega
                have hgB : out.length = 0 ∨ g < w9.heap.size := by rcases hgl with h | h; exact .inr (by omega); exact .inl h
                generalize hN : wv.heap.size = N at *
                generalize w9.heap.size = B at *
                clear hN hS9 hT9 hA9 hD9 hb4 hg4 hS0 hO0 hW0 hA0 hD0 hT0
                try simp only [Act.put, List.setIfInBounds_toArray, List.set_cons_zero, List.set_cons_succ]
                have hS' := hSX
                refine held_one (i := 10) (by kernel_rfl) rfl rfl (fun K hK => ?_)
                refine appendT_at X _ _ rfl B v4 (out.take p) [t] rfl hO ⟨N, 0, none⟩ 1 1 rfl hT rfl (by rw [List.length_take]; omega) hBX (some 58) rfl ?_
                intro v5 X5 hO5 hb5 hg5
                have hS5 : Below w.heap.size w X5 := hSX.trans (hb5.mono hwB)
                have hB5 : B ≤ X5.heap.size := Nat.le_trans hBX hb5.size
                have hD5 : RowT X5 (some ⟨g, og, none⟩) (out.drop p) := hD.keep hb5 (by rcases hgB with h | h; exact .inl (by rw [List.length_drop]; omega); exact .inr h) hb5.size
                refine hK.out _ _ hS5 ?_
                clear hK K hO hT hD hb5 hg5 hS'
                try simp only [Act.put, List.setIfInBounds_toArray, List.set_cons_zero, List.set_cons_succ]
                refine held_one (i := 14) (by kernel_rfl) rfl rfl (fun K hK => ?_)
                refine appendT_at X5 _ _ rfl B v5 (out.take p ++ [t]) (out.drop p) rfl hO5 ⟨g, og, none⟩ (i - p) (oc - p) rfl hD5 (by rw [List.length_drop, HOL.out]) (by rw [List.length_append, List.length_take]; simp; omega) hB5 (some 62) rfl ?_
                intro v6 X6 hO6 hb6 hg6
                have hS6 : Below w.heap.size w X6 := hS5.trans (hb6.mono hwB)
                refine hK.out _ _ hS6 ?_
                clear hK K hO5 hD5 hb6 hg6
                have hln : (out.take p ++ [t] ++ out.drop p).length = i + 1 := by rw [List.length_append, List.length_append, List.length_take, List.length_drop, HOL.out]; simp; omega
                obtain ⟨a6, c6, hv6, hr6, hl6, -, hn6⟩ := hO6.row
                obtain ⟨g6, ha6, hg6, -⟩ := hn6 (by intro e; rw [e] at hln; simp at hln)
                subst ha6
                rw [hln] at hv6 hl6
                subst hv6
                try simp only [Act.put, List.setIfInBounds_toArray, List.set_cons_zero, List.set_cons_succ]
                refine held_take 15 (some 4) (.slice (some ⟨g6, 0, none⟩) (i + 1) c6) rfl rfl (by kernel_rfl) (by kernel_rfl) (by kernel_rfl) (fun _ _ _ h => h) rfl (fun w' hS => ?_) hS6 ?_
                · clear hS; go_simp
                try simp only [Act.put, List.setIfInBounds_toArray, List.set_cons_zero, List.set_cons_succ]
                refine wpAnyH_done (by kernel_rfl) ?_ _
                go_simp
                go_wp2_with fail
                go_roundw
                case rel =>
                  refine ⟨X6, i + 1, g6, c6, out.take p ++ [t] ++ out.drop p, rfl, rfl, by go_num, by omega, hln, hl6, hr6, fun u hu => ?_, HM2.out, hS6⟩
                  rcases List.mem_append.1 hu with hu | hu
                  · rcases List.mem_append.1 hu with hu | hu
                    · exact HSM.out u (List.mem_of_mem_take hu)
                    · rw [List.mem_singleton] at hu
                      rw [hu]
                      exact HTS.out
                  · exact HSM.out u (List.mem_of_mem_drop hu)
                case measure => simp [intOf]; omega
      · have hii : ¬ (i : Int) < (len : Int) := by omega
        have HM2 : Hid (makeF [] ts = some out) := by unfold Hid; rw [HMK.out, show i = ts.length by rw [HL.out]; omega, List.drop_length, makeF]
        have HSO : Hid _ := rsound_any (some ⟨g, 0, none⟩) i oc out wr HRO.out HOL.out (by omega) (Short.of (ts := out) HSM.out)
        cases hs : soundB out with
        | true =>
          rw [hs] at HSO
          have HS2 : Hid (makeB ts = .ok out) := by unfold Hid; rw [HSB.out, HM2.out]; simp only []; rw [hs]; rfl
          clear hs
          go_wp2_with fail
          refine Calls.mono HSO.out ?_
          rintro _ w2 ⟨rfl, hw⟩
          have hb2 := below_some hw
          have HB2 : Hid (Below w.heap.size w w2) := HBE.out.trans (hb2.mono HBE.out.size)
          have HR2 : Hid (RowT w2 (some ⟨g, 0, none⟩) out) := HRO.out.below hb2
          clear hw hb2 HSO
          go_wp2_with fail
          go_ret2
          refine ⟨?_, HB2.out⟩
          rw [HS2.out]
          exact ⟨some ⟨g, 0, none⟩, oc, by rw [HOL.out]; rfl, HR2.out, by rw [HOL.out]; exact hoc⟩
        | false =>
          rw [hs] at HSO
          have HS2 : Hid (makeB ts = .error 2) := by unfold Hid; rw [HSB.out, HM2.out]; simp only []; rw [hs]; rfl
          clear hs
          go_wp2_with fail
          refine Calls.mono HSO.out ?_
          rintro _ w2 ⟨rfl, hw⟩
          have hb2 := below_some hw
          have HB2 : Hid (Below w.heap.size w w2) := HBE.out.trans (hb2.mono HBE.out.size)
          clear hw hb2 HSO
          go_wp2_with fail
          go_ret2
          exact ⟨by rw [HS2.out]; exact rfl, HB2.out⟩
end Go.Proofs.YtbfgkogmojnilaaDoor
