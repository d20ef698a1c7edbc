/-
  TagsBack: for any tags and any text (of at most 1048576 values and letters together): what is written is read as it was, and what is read is written so.
-/
import Derived.Test.YtbfgkogmojnilaaDoorCards
import Derived.Test.YtbfgkogmojnilaaDoorTie
import Derived.Test.YtbfgkogmojnilaaDoorCArgs
import Derived.Test.YtbfgkogmojnilaaDoorLabelLaid
import Derived.Test.YtbfgkogmojnilaaDoorTagArgs
import Derived.Test.YtbfgkogmojnilaaDoorTagAwake
import Derived.Test.YtbfgkogmojnilaaDoorTagLaws
namespace Go.Proofs.YtbfgkogmojnilaaDoor.tagsBackUpto
open Go.ChangeShapes Go.WideShapes Go.ChangeAt Go.RowKit
open Go.ChangeMaps (open_string shut_string)
set_option linter.unusedVariables false
set_option linter.unusedSimpArgs false
theorem parse_err {s : List Nat} {E : Nat} (h : parseB s = .error E) : E ≠ 0 := by
  unfold parseB at h
  split at h
  · cases h
  · cases hm : parseF s [] [] with
    | none => rw [hm] at h; cases h; decide
    | some out =>
      rw [hm] at h
      simp only [] at h
      split at h
      · cases h
      · cases h; decide
theorem join_small (ts : List (ByteArray × ByteArray)) : ∀ c ∈ joinT ts, c < 256 := by
  have hp : ∀ t : ByteArray × ByteArray, ∀ c ∈ pairT t, c < 256 := by
    intro t c hc
    unfold pairT at hc
    rcases List.mem_append.1 hc with hc | hc
    · rcases List.mem_append.1 hc with hc | hc
      · have := esc_letters (txt t.1) (txt_lt t.1) c hc; omega
      · rw [List.mem_singleton] at hc; omega
    · have := esc_letters (txt t.2) (txt_lt t.2) c hc; omega
  match ts with
  | [] => intro c hc; cases hc
  | [t] => exact hp t
  | t :: u :: ts =>
    intro c hc
    rw [joinT] at hc
    rcases List.mem_append.1 hc with hc | hc
    · rcases List.mem_append.1 hc with hc | hc
      · exact hp t c hc
      · rw [List.mem_singleton] at hc; omega
    · exact join_small (u :: ts) c hc
set_option maxRecDepth 100000 in
set_option maxHeartbeats 8000000 in
theorem walk (W : World) (hTab : Tab6 W) (a : Option Addr) (len cap : Nat) (ts : List (ByteArray × ByteArray)) (hT : ArgT W a len cap ts) (S : ByteArray) (wS : S.size ≤ 140737488351232) (bS : S.size ≤ 1048576) :
    Calls Tryd.prog 5 #[.slice a len cap, .string S] W fun e W' => e = .returned (.bool true) ∧ Below W.heap.size W W' := by
  obtain ⟨hr, hl, hlb, hsh, hnil⟩ := hT
  have HX : Hid _ := ttext_any a len cap ts W hTab hr hl hlb
  have HTAB : Hid (Tab6 W) := hTab
  have HA : Hid (∀ V, Below W.heap.size W V → Calls Tryd.prog 9 #[] V fun e w' => e = .returned (.bool true) ∧ Below V.heap.size V w') := fun V hV => awake_true V (HTAB.out.below hV)
  have HRA : Hid (∀ V, Below W.heap.size W V → RowT V a ts) := fun V hV => hr.below hV
  have HLA : Hid (ts.length = len ∧ len ≤ 9223372036854775806) := ⟨hl, hlb⟩
  have HS : Hid (∀ V, Below W.heap.size W V → Calls Tryd.prog 15 #[.string S] V fun e w' => TagsR (parseB (txt S)) e w' ∧ Below V.heap.size V w') := fun V hV => tparse_any S V (HTAB.out.below hV) (by omega)
  have hss : (S.toList == S.toList) = true := by simp
  have hos := sound_len (parse_sound (txt S))
  obtain ⟨E, o, U, hE, ho, HU⟩ : ∃ (E : Nat) (o : List (ByteArray × ByteArray)) (U : ByteArray), errB (parseB (txt S)) = E ∧ outB (parseB (txt S)) = o ∧ Hid ((E ≠ 0 ∨ U = S) ∧ soundB o = true ∧ textR o = .tuple #[.string U, .int .i64 0]) := by
    refine ⟨_, _, strN (joinT (outB (parseB (txt S)))), rfl, rfl, ?_⟩
    cases hp : parseB (txt S) with
    | error E' => exact ⟨.inl (parse_err hp), rfl, rfl⟩
    | ok q =>
      obtain ⟨q1, q2⟩ := text_parse hp
      refine ⟨.inr ?_, q1, by unfold textR outB; rw [q1]; rfl⟩
      show strN (joinT q) = S
      rw [q2, strN_txt]
  have HUT : Hid (∀ V b n c, Below W.heap.size W V → RowT V b o → o.length = n → n ≤ 8 → Calls Tryd.prog 13 #[.slice b n c] V fun e w' => e = .returned (.tuple #[.string U, .int .i64 0]) ∧ Below V.heap.size V w') := fun V b n c hV h1 h2 h3 => by
    have := ttext_any b n c o V (HTAB.out.below hV) h1 h2 (by omega)
    rw [HU.out.2.2] at this
    exact this
  rw [ho] at hos
  generalize parseB (txt S) = y at *
  cases hs : soundB ts with
  | true =>
    have hX : textR ts = .tuple #[.string (strN (joinT ts)), .int .i64 0] := by unfold textR; rw [hs]; rfl
    rw [hX] at HX
    obtain ⟨h8, hok⟩ := sound_parts hs
    have hjl := join_len ts hok ts.length (Nat.le_refl _)
    rw [List.take_length] at hjl
    obtain ⟨T, hTT⟩ : ∃ T, T = strN (joinT ts) := ⟨_, rfl⟩
    rw [← hTT] at HX
    have hTt : txt T = joinT ts := by rw [hTT, txt_strN _ (join_small ts)]
    have HT : Hid (∀ V, Below W.heap.size W V → Calls Tryd.prog 15 #[.string T] V fun e w' => TagsR (.ok ts) e w' ∧ Below V.heap.size V w') := fun V hV => by
      have := tparse_any T V (HTAB.out.below hV) (by rw [← txt_length, hTt]; omega)
      rw [hTt, parse_text hs] at this
      exact this
    obtain ⟨E1, hE1, hz1⟩ : ∃ E1 : Nat, errB (.ok ts) = E1 ∧ E1 = 0 := ⟨0, rfl, rfl⟩
    subst hz1
    have ho1 : outB (.ok ts) = ts := rfl
    have hEU := HU.out.1
    clear hTab hr hl hlb hsh hnil hs hX hok hjl hTT hTt
    go_enter Tryd.func5, Tryd.ntmps5
    go_wp2_with fail
    refine Calls.mono (HX.out) ?_
    rintro _ w1 ⟨rfl, hb⟩
    have HB1 : Hid (Below W.heap.size W w1) := hb
    clear hb HX
    go_wp2_with fail
    refine Calls.mono (HT.out _ HB1.out) ?_
    rintro _ w2 ⟨he, hb⟩
    obtain ⟨a2, n2, c2, rfl, hr2, hn2, hc2⟩ := tags_as hE1 ho1 he
    have HB2 : Hid (Below W.heap.size W w2) := HB1.out.trans (hb.mono HB1.out.size)
    have HR2 : Hid (RowT w2 a2 ts) := hr2
    have HN2 : Hid (ts.length = n2) := hn2
    have hnb2 : n2 ≤ 8 := by omega
    clear hb he hr2 hn2 hc2 HT HB1
    go_wp2_with fail
    refine Calls.mono (HS.out _ HB2.out) ?_
    rintro _ w3 ⟨he, hb⟩
    obtain ⟨a3, n3, c3, rfl, hr3, hn3, hc3⟩ := tags_as hE ho he
    have HB3 : Hid (Below W.heap.size W w3) := HB2.out.trans (hb.mono HB2.out.size)
    replace HR2 : Hid (RowT w3 a2 ts) := HR2.out.below hb
    have HR3 : Hid (RowT w3 a3 o) := hr3
    have HN3 : Hid (o.length = n3) := hn3
    have hnb3 : n3 ≤ 8 := by omega
    clear hb he hr3 hn3 hc3 HS HB2
    go_wp2_with fail
    refine Calls.mono (HUT.out _ _ _ _ HB3.out HR3.out HN3.out hnb3) ?_
    rintro _ w4 ⟨rfl, hb⟩
    have HB4 : Hid (Below W.heap.size W w4) := HB3.out.trans (hb.mono HB3.out.size)
    replace HR2 : Hid (RowT w4 a2 ts) := HR2.out.below hb
    clear hb HUT HR3 HB3
    go_wp2_with fail
    refine Calls.mono (HA.out _ HB4.out) ?_
    rintro _ w5 ⟨rfl, hb⟩
    have HB5 : Hid (Below W.heap.size W w5) := HB4.out.trans (hb.mono HB4.out.size)
    replace HR2 : Hid (RowT w5 a2 ts) := HR2.out.below hb
    clear hb HA HB4
    go_wp2_with fail
    have HSM : Hid _ := rsame_any a2 n2 c2 ts a len cap ts w5 HR2.out HN2.out (by omega) (HRA.out _ HB5.out) HLA.out.1 HLA.out.2
    rw [same_self] at HSM
    refine Calls.mono HSM.out ?_
    rintro _ w6 ⟨rfl, hw⟩
    have hb := below_some hw
    have HB6 : Hid (Below W.heap.size W w6) := HB5.out.trans (hb.mono HB5.out.size)
    clear hb hw HSM HR2
    rcases hEU with hE0 | hUS
    · have hei : ((E : Int) != 0) = true := by rw [bne_iff_ne]; omega
      go_wp2_with fail
      go_ret
      exact ⟨rfl, HB6.out⟩
    · subst hUS
      cases hz : decide (E = 0) with
      | true =>
        have hei : ((E : Int) != 0) = false := by rw [of_decide_eq_true hz]; rfl
        clear hz
        go_wp2_with fail
        go_ret
        exact ⟨rfl, HB6.out⟩
      | false =>
        have hei : ((E : Int) != 0) = true := by have := of_decide_eq_false hz; rw [bne_iff_ne]; omega
        clear hz
        go_wp2_with fail
        go_ret
        exact ⟨rfl, HB6.out⟩
  | false =>
    have hX : textR ts = .tuple #[.string (ByteArray.mk #[]), .int .i64 2] := by unfold textR; rw [hs]; rfl
    rw [hX] at HX
    have HT : Hid (∀ V, Below W.heap.size W V → Calls Tryd.prog 15 #[.string (ByteArray.mk #[])] V fun e w' => TagsR (.ok []) e w' ∧ Below V.heap.size V w') := fun V hV => tparse_any (ByteArray.mk #[]) V (HTAB.out.below hV) (by decide)
    obtain ⟨E1, hE1, hz1⟩ : ∃ E1 : Nat, errB (.ok []) = E1 ∧ E1 = 0 := ⟨0, rfl, rfl⟩
    subst hz1
    obtain ⟨o1, ho1, hol1⟩ : ∃ o1, outB (.ok []) = o1 ∧ o1.length ≤ 8 := ⟨[], rfl, by simp⟩
    have hEU := HU.out.1
    clear hTab hr hl hlb hsh hnil hs hX
    go_enter Tryd.func5, Tryd.ntmps5
    go_wp2_with fail
    refine Calls.mono (HX.out) ?_
    rintro _ w1 ⟨rfl, hb⟩
    have HB1 : Hid (Below W.heap.size W w1) := hb
    clear hb HX
    go_wp2_with fail
    refine Calls.mono (HT.out _ HB1.out) ?_
    rintro _ w2 ⟨he, hb⟩
    obtain ⟨a2, n2, c2, rfl, hr2, hn2, hc2⟩ := tags_as hE1 ho1 he
    have HB2 : Hid (Below W.heap.size W w2) := HB1.out.trans (hb.mono HB1.out.size)
    have HR2 : Hid (RowT w2 a2 o1) := hr2
    have HN2 : Hid (o1.length = n2) := hn2
    have hnb2 : n2 ≤ 8 := by omega
    clear hb he hr2 hn2 hc2 HT HB1
    go_wp2_with fail
    refine Calls.mono (HS.out _ HB2.out) ?_
    rintro _ w3 ⟨he, hb⟩
    obtain ⟨a3, n3, c3, rfl, hr3, hn3, hc3⟩ := tags_as hE ho he
    have HB3 : Hid (Below W.heap.size W w3) := HB2.out.trans (hb.mono HB2.out.size)
    replace HR2 : Hid (RowT w3 a2 o1) := HR2.out.below hb
    have HR3 : Hid (RowT w3 a3 o) := hr3
    have HN3 : Hid (o.length = n3) := hn3
    have hnb3 : n3 ≤ 8 := by omega
    clear hb he hr3 hn3 hc3 HS HB2
    go_wp2_with fail
    refine Calls.mono (HUT.out _ _ _ _ HB3.out HR3.out HN3.out hnb3) ?_
    rintro _ w4 ⟨rfl, hb⟩
    have HB4 : Hid (Below W.heap.size W w4) := HB3.out.trans (hb.mono HB3.out.size)
    replace HR2 : Hid (RowT w4 a2 o1) := HR2.out.below hb
    clear hb HUT HR3 HB3
    go_wp2_with fail
    refine Calls.mono (HA.out _ HB4.out) ?_
    rintro _ w5 ⟨rfl, hb⟩
    have HB5 : Hid (Below W.heap.size W w5) := HB4.out.trans (hb.mono HB4.out.size)
    replace HR2 : Hid (RowT w5 a2 o1) := HR2.out.below hb
    clear hb HA HB4
    rcases hEU with hE0 | hUS
    · have hei : ((E : Int) != 0) = true := by rw [bne_iff_ne]; omega
      go_wp2_with fail
      go_ret
      exact ⟨rfl, HB5.out⟩
    · subst hUS
      cases hz : decide (E = 0) with
      | true =>
        have hei : ((E : Int) != 0) = false := by rw [of_decide_eq_true hz]; rfl
        clear hz
        go_wp2_with fail
        go_ret
        exact ⟨rfl, HB5.out⟩
      | false =>
        have hei : ((E : Int) != 0) = true := by have := of_decide_eq_false hz; rw [bne_iff_ne]; omega
        clear hz
        go_wp2_with fail
        go_ret
        exact ⟨rfl, HB5.out⟩
set_option maxRecDepth 100000 in
theorem contract (H : Type) (enc : TypeId × Value → H) (W : World) (base : Nat) (args : Array Value) (ds gs : List (DataW H)) (before : List MemPlace)
    (hval : ∀ (j : Nat) t v, Tryd.f5.params[j]? = some t → args[j]? = some v → Value.okWide Tryd.prog W .any base t v)
    (hW : DataW.Whole enc Tryd.prog Tryd.f5.params.toList Rows.tagsBackSpec.vars false W args.toList ds gs before)
    (hk : Rows.uptoSmall H (ds ++ gs) = true)
    (hsz : (DataW.weightsEach Tryd.prog (Tryd.f5.params.toList ++ (Rows.OpenSpec.upto Rows.tagsBackSpec).bare.plain.varTypes Tryd.prog) (ds ++ gs)).all (· ≤ reachBytes) = true) (hL : laidMetH Tryd.prog Rows.tagsBackUptoRow.laid W) (hsh : W.ShapedOpen Tryd.prog) :
    Calls Tryd.prog 5 args W fun e W' => ∃ v, e = .returned v ∧ Rows.tagsBackSpec.post enc Tryd.prog Tryd.f5 false true false false W args v W' := by
  have hW' := hW
  obtain ⟨p, q, hA0, hV, rfl, hfz, hnd⟩ := hW
  have hA : DataW.TrodAll enc Tryd.prog W 0 (fun _ => true) true Tryd.f5.params.toList args.toList ds p := hA0
  rw [Tryd.params5] at hA hval hsz
  obtain ⟨v0, vs0, d0, ds0, p0, q0, hargs, rfl, rfl, h0, r0⟩ := trodAll_cons hA
  obtain ⟨v1, vs1, d1, ds1, p1, q1, rfl, rfl, rfl, h1, r1⟩ := trodAll_cons r0
  obtain ⟨rfl, rfl, rfl⟩ := trodAll_nil r1
  obtain rfl : args = #[v0, v1] := by cases args; simp_all
  obtain ⟨rfl, rfl⟩ := trodVars_none hV
  have hbulk := of_decide_eq_true hk
  simp only [List.append_nil, Rows.uptoBulkAll] at hbulk
  obtain ⟨a0, len0, cap0, rfl⟩ := okWide_slice Tryd.underlying22 (hval 0 22 v0 rfl rfl)
  have k0 := h0
  have lt0 : ∀ x ∈ p0, x.block < W.heap.size := by obtain ⟨m, hm⟩ := k0; exact DataW.trod_lt m _ _ _ hm
  obtain ⟨x0, w0⟩ : ∃ ts, ArgT W a0 len0 cap0 ts := by
    obtain ⟨fuel, hf⟩ := h0
    exact tags_open hf fun es sp hd => sized_slice hsz (j := 0) (t := 22) (e := 40) rfl (by rw [hd]; rfl) Tryd.underlying22
  obtain ⟨a1, rfl, rfl, rfl, m1⟩ := open_string Tryd.underlying9 (hval 1 9 v1 rfl rfl) h1
  have w1 : a1.size ≤ 140737488351232 := by
    have := sized_string hsz (j := 1) (t := 9) rfl rfl
    rw [bytes_len] at this
    exact this
  have bu1 : a1.size ≤ 1048576 := by
    simp only [Rows.uptoBulk] at hbulk
    rw [← bytes_len]
    omega
  clear hA0 hsz hbulk
  refine (walk W (table6 hL hsh) a0 len0 cap0 x0 w0 a1 w1 bu1).mono fun e W' ⟨he, bel⟩ => ?_
  subst he
  exact ⟨_, rfl, _, _, _, [], _, [], hW', trodAll_mk1 (shut_bool Tryd.underlying4 _), (trodAll_cons_mk (Below.trod laidOut (by kernel_rfl) (of_decide_eq_true (by kernel_rfl)) k0 bel lt0) (trodAll_cons_mk (shut_string Tryd.underlying9 m1) trodAll_mk0)), rfl, bel.frame _, fun h => by cases h⟩
set_option maxRecDepth 100000 in
theorem lifted (os : Os) (started : os.Started) (H : Type) (enc : TypeId × Value → H) (I : Stop.Interp) :
    ReturnsInHanded {} Tryd.checked os 5 .any ((Rows.OpenSpec.upto Rows.tagsBackSpec).preRow enc Tryd.prog Tryd.f5 Rows.tagsBackUptoRow.domain false Rows.tagsBackUptoRow.laid) (((Rows.OpenSpec.upto Rows.tagsBackSpec).at I).post enc Tryd.prog Tryd.f5 false true false false) := by
  refine returnsInHanded_of_row (C := Tryd.checked) (s := (Rows.OpenSpec.upto Rows.tagsBackSpec)) own started (by kernel_rfl) Tryd.func5
    (witness_row_at (enc := enc) (C := Tryd.checked) false { World.holding Tryd.prog os ⟨#[], #[], []⟩ with heap := (((World.holding Tryd.prog os ⟨#[], #[], []⟩).heap.modify 1 (fun
        | .cells _ t frozen => .cells #[.int .u8 240, .int .u8 240, .int .u8 240, .int .u8 240, .int .u8 240, .int .u8 240, .int .u8 240, .int .u8 240, .int .u8 240, .int .u8 240, .int .u8 240, .int .u8 240, .int .u8 240, .int .u8 240, .int .u8 240, .int .u8 240, .int .u8 240, .int .u8 240, .int .u8 240, .int .u8 240, .int .u8 240, .int .u8 240, .int .u8 240, .int .u8 240, .int .u8 240, .int .u8 240, .int .u8 240, .int .u8 240, .int .u8 240, .int .u8 240, .int .u8 240, .int .u8 240, .int .u8 240, .int .u8 240, .int .u8 240, .int .u8 240, .int .u8 240, .int .u8 240, .int .u8 240, .int .u8 240, .int .u8 240, .int .u8 240, .int .u8 240, .int .u8 240, .int .u8 240, .int .u8 240, .int .u8 240, .int .u8 240, .int .u8 240, .int .u8 240, .int .u8 240, .int .u8 240, .int .u8 240, .int .u8 240, .int .u8 240, .int .u8 240, .int .u8 240, .int .u8 240, .int .u8 240, .int .u8 240, .int .u8 240, .int .u8 240, .int .u8 240, .int .u8 240, .int .u8 240, .int .u8 240, .int .u8 240, .int .u8 240, .int .u8 240, .int .u8 240, .int .u8 240, .int .u8 240, .int .u8 240, .int .u8 240, .int .u8 240, .int .u8 240, .int .u8 240, .int .u8 240, .int .u8 240, .int .u8 240, .int .u8 240, .int .u8 240, .int .u8 240, .int .u8 240, .int .u8 240, .int .u8 240, .int .u8 240, .int .u8 240, .int .u8 240, .int .u8 240, .int .u8 240, .int .u8 240, .int .u8 240, .int .u8 240, .int .u8 240, .int .u8 240, .int .u8 240, .int .u8 240, .int .u8 240, .int .u8 240, .int .u8 240, .int .u8 240, .int .u8 240, .int .u8 240, .int .u8 240, .int .u8 240, .int .u8 240, .int .u8 240, .int .u8 240, .int .u8 240, .int .u8 240, .int .u8 240, .int .u8 240, .int .u8 240, .int .u8 240, .int .u8 240, .int .u8 240, .int .u8 240, .int .u8 240, .int .u8 240, .int .u8 240, .int .u8 240, .int .u8 240, .int .u8 240, .int .u8 240, .int .u8 240, .int .u8 240, .int .u8 240, .int .u8 241, .int .u8 241, .int .u8 241, .int .u8 241, .int .u8 241, .int .u8 241, .int .u8 241, .int .u8 241, .int .u8 241, .int .u8 241, .int .u8 241, .int .u8 241, .int .u8 241, .int .u8 241, .int .u8 241, .int .u8 241, .int .u8 241, .int .u8 241, .int .u8 241, .int .u8 241, .int .u8 241, .int .u8 241, .int .u8 241, .int .u8 241, .int .u8 241, .int .u8 241, .int .u8 241, .int .u8 241, .int .u8 241, .int .u8 241, .int .u8 241, .int .u8 241, .int .u8 241, .int .u8 241, .int .u8 241, .int .u8 241, .int .u8 241, .int .u8 241, .int .u8 241, .int .u8 241, .int .u8 241, .int .u8 241, .int .u8 241, .int .u8 241, .int .u8 241, .int .u8 241, .int .u8 241, .int .u8 241, .int .u8 241, .int .u8 241, .int .u8 241, .int .u8 241, .int .u8 241, .int .u8 241, .int .u8 241, .int .u8 241, .int .u8 241, .int .u8 241, .int .u8 241, .int .u8 241, .int .u8 241, .int .u8 241, .int .u8 241, .int .u8 241, .int .u8 241, .int .u8 241, .int .u8 2, .int .u8 2, .int .u8 2, .int .u8 2, .int .u8 2, .int .u8 2, .int .u8 2, .int .u8 2, .int .u8 2, .int .u8 2, .int .u8 2, .int .u8 2, .int .u8 2, .int .u8 2, .int .u8 2, .int .u8 2, .int .u8 2, .int .u8 2, .int .u8 2, .int .u8 2, .int .u8 2, .int .u8 2, .int .u8 2, .int .u8 2, .int .u8 2, .int .u8 2, .int .u8 2, .int .u8 2, .int .u8 2, .int .u8 2, .int .u8 19, .int .u8 3, .int .u8 3, .int .u8 3, .int .u8 3, .int .u8 3, .int .u8 3, .int .u8 3, .int .u8 3, .int .u8 3, .int .u8 3, .int .u8 3, .int .u8 3, .int .u8 35, .int .u8 3, .int .u8 3, .int .u8 52, .int .u8 4, .int .u8 4, .int .u8 4, .int .u8 68, .int .u8 241, .int .u8 241, .int .u8 241, .int .u8 241, .int .u8 241, .int .u8 241, .int .u8 241, .int .u8 241, .int .u8 241, .int .u8 241, .int .u8 241] t frozen
        | o => o)).modify 2 (fun
        | .cells _ t frozen => .cells #[.int .u8 128, .int .u8 191, .int .u8 160, .int .u8 191, .int .u8 128, .int .u8 159, .int .u8 144, .int .u8 191, .int .u8 128, .int .u8 143, .int .u8 0, .int .u8 0, .int .u8 0, .int .u8 0, .int .u8 0, .int .u8 0, .int .u8 0, .int .u8 0, .int .u8 0, .int .u8 0, .int .u8 0, .int .u8 0, .int .u8 0, .int .u8 0, .int .u8 0, .int .u8 0, .int .u8 0, .int .u8 0, .int .u8 0, .int .u8 0, .int .u8 0, .int .u8 0] t frozen
        | o => o)) } #[.slice none 0 0, .string ByteArray.empty] rfl (by kernel_rfl) (by kernel_rfl) (by kernel_rfl)
      (OpenSpec.preRow_of_cond 8 (x := ([.nil, .lit (.string [])], [], [])) (by kernel_rfl) (by kernel_rfl) (fun k hk => by cases hk; kernel_rfl) (by kernel_rfl) (laidMet_of_run' 8 (by kernel_rfl) (by kernel_rfl)))) ?_
  intro W base args ds gs before hval hW _ hcond hsz hL hsh _
  exact contract H enc W base args ds gs before hval hW (hcond _ rfl) hsz hL hsh
theorem said : Rows.TagsBackUptoSaid :=
  OpenClaim.holds_of_cond 5 Tryd.f5 rfl rfl rfl rfl rfl rfl rfl ⟨rfl, rfl, rfl, rfl, rfl⟩ rfl rfl rfl rfl rfl (by kernel_rfl) Tryd.func5 (by kernel_rfl)
    (of_decide_eq_true (by kernel_rfl)) (by unfold Func.isWrapper; first | (rw [if_pos (by decide +kernel)]; kernel_rfl) | (rw [if_neg (by decide +kernel)]; exact ⟨rfl, rfl⟩))
    (fun os started H enc _ I => by rw [OpenClaim.pre_eq_preRow]; exact lifted os started H enc I)
theorem plain (f : FuncId) (fn : Func) (hf : Tryd.pinned.checked.prog.funcNamed Rows.tagsBackUptoRow.func = some f) (hfn : Tryd.pinned.checked.prog.funcs[f]? = some fn) :
    false = Tryd.pinned.checked.prog.looks [] ∧ ∀ (j : Nat) t, fn.params[j]? = some t → Tryd.pinned.checked.prog.wantsStandIn t = false := by
  obtain rfl : f = 5 := Option.some.inj ((show Tryd.prog.funcNamed Rows.tagsBackUptoRow.func = some 5 by kernel_rfl).symm.trans hf) |>.symm
  obtain rfl : fn = Tryd.f5 := (Option.some.inj (Tryd.func5.symm.trans hfn)).symm
  refine ⟨by kernel_rfl, fun j t ht => ?_⟩
  rw [Tryd.params5] at ht
  have hm := Array.mem_of_getElem? ht
  simp only [List.mem_toArray, List.mem_cons, List.not_mem_nil, or_false] at hm
  rcases hm with rfl | rfl
  · exact (show Tryd.prog.wantsStandIn 22 = false by kernel_rfl)
  · exact (show Tryd.prog.wantsStandIn 9 = false by kernel_rfl)
theorem card : Rows.TagsBackUptoCardSaid :=
  Claim7.holds_tied_plain_at .later [] _ _ _ _ said (fun _ h => by cases h) (by kernel_rfl) (fun _ h => by cases h) tagsBackUpto_row_tie rfl ⟨rfl, rfl⟩ (by kernel_rfl) rfl plain (by kernel_rfl)
#print axioms card
end Go.Proofs.YtbfgkogmojnilaaDoor.tagsBackUpto
