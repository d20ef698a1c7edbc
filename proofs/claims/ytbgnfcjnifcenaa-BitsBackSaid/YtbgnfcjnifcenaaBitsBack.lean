/-
  For any number, any number with a sign and any bytes: what was packed is unpacked as it was with what stands behind left, eight bytes are the number again, and Zag goes back behind Zig; no condition.
  The frame behind the walk is the kit's shell, written by program.
-/
import Derived.Test.YtbgnfcjnifcenaaRows
import Derived.Test.YtbgnfcjnifcenaaBackN
import Derived.WalkKit
import Derived.SizedLaws
import Derived.ProofKit
import Derived.OpenShut
import Derived.ShutString
import Derived.ChangeOld
import Derived.Below
namespace Go.Proofs.Ytbgnfcjnifcenaa.bitsBack
open Go.ChangeShapes Go.WideShapes Go.ChangeAt Go.RowKit
open Go.ChangeMaps (open_string shut_string)
set_option linter.unusedVariables false

theorem own : ownKnob Try.prog.godebug = none := by kernel_rfl
theorem laidOut : laidOutB Try.prog = true := by kernel_rfl

/-- WHAT THE WALK IS TOLD OF A SLICE OF INTEGERS THAT CAME IN: it is nil; or it leads to a row of 'cap' cells, the numbers 'zs' (the first 'len' are its elements, the rest its spare room), each fitting its kind. -/
def IsRow (k : IntKind) (w : World) (a : Option Addr) (len cap : Nat) (zs : List Int) : Prop :=
  (a = none ∧ len = 0 ∧ cap = 0 ∧ zs = []) ∨
  ∃ x, a = some x ∧ len ≤ cap ∧ cap ≤ maxLen ∧ zs.length = cap ∧ (∀ i, i < zs.length → w.cell? (x.add i) = some (.int k (zs.getD i 0))) ∧ ∀ n ∈ zs, (Lit.int k n).wf = true

theorem row_of {w : World} {a : Option Addr} {len cap : Nat} {zs : List Int} (h : IsRow .u8 w a len cap zs) : Row w a len (zs.take len) := by
  rcases h with ⟨rfl, rfl, rfl, rfl⟩ | ⟨x, rfl, hl, hm, hz, hc, hw⟩
  · exact ⟨rfl, Nat.zero_le _, fun i => by simp, .inl rfl⟩
  · refine ⟨by simp; omega, Nat.le_trans hl hm, fun i => ?_, ?_⟩
    · by_cases hi : i < (zs.take len).length
      · have hmem : (zs.take len)[i] ∈ zs := List.mem_of_mem_take (List.getElem_mem hi)
        have := bounds_u8 (hw _ hmem)
        rw [List.getD_eq_getElem?_getD, List.getElem?_eq_getElem hi]
        exact this
      · rw [List.getD_eq_getElem?_getD, List.getElem?_eq_none (by omega)]
        simp
    · by_cases h0 : len = 0
      · exact .inl h0
      · obtain ⟨b, off, spot⟩ := x
        have c0 := hc 0 (by omega)
        have hspot : spot = none := by simpa [Addr.add] using World.cell?_spot c0
        subst hspot
        refine .inr ⟨b, off, rfl, ?_, fun i hi => ?_⟩
        · simpa [Addr.add] using World.block_lt_of_cell? w _ c0
        · have := hc i (by omega)
          have hp : (⟨b, off, none⟩ : Addr).add i = ⟨b, off + i, none⟩ := by unfold Addr.add; split <;> simp_all
          rw [hp] at this
          rw [this]
          simp [hi]
theorem cell_below {w w' : World} (h : Below w.heap.size w w') {p : Addr} {v : Value} (hc : w.cell? p = some v) : w'.cell? p = some v :=
  (h.cell (World.block_lt_of_cell? w p hc)).trans hc
/-- The law's body at any input. -/
theorem walk (a0 : Int) (a1 : Int) (a2 : Option Addr) (len2 cap2 : Nat) (z2 : List Int) (w : World) (w0 : (Lit.int .u64 a0).wf = true) (w1 : (Lit.int .i64 a1).wf = true) (w2 : IsRow .u8 w a2 len2 cap2 z2) (re2 : cap2 ≤ 140737488351232) :
    Calls Try.prog 7 #[.int .u64 a0, .int .i64 a1, .slice a2 len2 cap2] w fun e w' => e = .returned (.bool true) ∧ Below w.heap.size w w' := by
  obtain ⟨l0, h0⟩ := bounds_u64 w0
  obtain ⟨l1, h1⟩ := bounds_i64 w1
  have hr := row_of w2
  have hnil : a2 = none → len2 = 0 ∧ cap2 = 0 := by
    rcases w2 with ⟨-, h, h', -⟩ | ⟨x, rfl, -⟩
    · intro _; exact ⟨h, h'⟩
    · intro h; cases h
  have hcl : ∀ ad, a2 = some ad → ∀ j, j < len2 → w.cell? (ad.add j) = some (.int .u8 ((z2.take len2).getD j 0)) := by
    intro ad had j hj
    rcases w2 with ⟨rfl, -⟩ | ⟨x, rfl, hl, hm, hz, hc, hw⟩
    · cases had
    · cases had
      rw [hc j (by omega)]
      simp [hj]
  have hlen2 : len2 ≤ 140737488351232 := by
    rcases w2 with ⟨-, rfl, -⟩ | ⟨x, -, hl, -⟩
    · omega
    · omega
  have hbs : ∀ c ∈ z2.take len2, 0 ≤ c ∧ c ≤ 255 := by
    intro c hc
    obtain ⟨i, hi, rfl⟩ := List.getElem_of_mem hc
    have := hr.2.2.1 i
    rw [List.getD_eq_getElem?_getD, List.getElem?_eq_getElem hi] at this
    exact this
  have hxl : (z2.take len2).length = len2 := hr.1
  clear w0 w1 w2 hr
  generalize z2.take len2 = ys at *
  obtain ⟨u1, u2, u3⟩ := up_pk a0 ys l0 h0
  obtain ⟨p1, p2, p3, p4⟩ := put8 a0 l0 h0
  have hpl := pk_length 9 a0
  have hpp := pk_pos 9 a0
  have hpb := pk_bytes 9 a0 l0 (by omega)
  have hbl := be_length a0 8
  have hbb := be_bytes 8 a0
  obtain ⟨zb0, zb1⟩ := zigV_bounds a1 l1 h1
  have hzz := zag_zig a1
  have HU : Hid (upE (pk 9 a0 ++ ys) = 0 ∧ upV (pk 9 a0 ++ ys) = a0 ∧ upU (pk 9 a0 ++ ys) = ((pk 9 a0).length : Int)) := ⟨u1, u2, u3⟩
  have HP : Hid (putL a0 8 = be a0 8 ∧ putErr a0 8 = 0 ∧ getV (be a0 8) = a0 ∧ getErr (be a0 8) = 0) := ⟨p1, p2, p3, p4⟩
  have HZ : Hid (zagV (zigV a1) = a1) := hzz
  have HN : Hid (a2 = none → len2 = 0 ∧ cap2 = 0) := hnil
  have HC : Hid (∀ ad, a2 = some ad → ∀ j, j < len2 → w.cell? (ad.add j) = some (.int .u8 (ys.getD j 0))) := hcl
  have HBY : Hid (∀ c ∈ ys, 0 ≤ c ∧ c ≤ 255) := hbs
  have HPB : Hid (∀ c ∈ pk 9 a0, 0 ≤ c ∧ c ≤ 255) := hpb
  have HBL : Hid ((be a0 8).length = 8 ∧ ∀ c ∈ be a0 8, 0 ≤ c ∧ c ≤ 255) := ⟨hbl, hbb⟩
  have HXL : Hid (ys.length = len2) := hxl
  clear u1 u2 u3 p1 p2 p3 p4 hzz hnil hcl hbs hpb hbl hbb hxl
  go_enter Try.func7, Try.ntmps7
  go_wp2_with fail
  refine (pack_all a0 _ l0 h0).mono ?_
  rintro e w1 ⟨a, c, rfl, hm1, hb1⟩
  generalize pk 9 a0 = ps at *
  obtain ⟨-, ⟨-, hz0⟩ | ⟨b, off, rfl, hblt, hcp⟩⟩ := hm1
  · omega
  have hsz1 := hb1.size
  have HO : Hid (OwnB (w1.alloc (.cells #[] 5)) w.heap.size (.slice (some ⟨w1.heap.size, 0, none⟩) 0 0) []) := World.ownsRow_lit w1 #[] 0 hsz1 (by decide) rfl
  have HCP : Hid (∀ ad, some (⟨b, off, none⟩ : Addr) = some ad → ∀ j, j < ps.length → (w1.alloc (.cells #[] 5)).cell? (ad.add j) = some (.int .u8 (ps.getD j 0))) := by
    intro ad had j hj
    cases had
    have hp : (⟨b, off, none⟩ : Addr).add j = ⟨b, off + j, none⟩ := by unfold Addr.add; split <;> simp_all
    rw [hp, World.cell?_alloc_lt _ _ _ hblt]
    exact hcp j hj
  clear hcp
  go_wp2_with (first
    | (at_builtin; refine append_row _ rfl (.tmp 18) (.tmp 19) rfl w.heap.size _ [] ps rfl HO.out (some ⟨b, off, none⟩) ps.length c rfl rfl (fun h => by cases h) HCP.out (by simp; omega) (by simp; omega) ?_; intro v1 w2 hown2 hb2)
    | (at_builtin; refine append_row _ rfl (.tmp 20) (.tmp 21) rfl w.heap.size _ ([] ++ ps) ys rfl hown2 a2 len2 cap2 rfl HXL.out HN.out (fun ad had j hj => cell_below (Below.trans (Below.alloc hb1 hsz1 _) hb2) (HC.out ad had j hj)) (by simp; omega) (Nat.le_trans hsz1 (Nat.le_trans (by simp) hb2.size)) ?_; intro v2 w3 hown3 hb3))
  rw [List.nil_append] at hown3
  obtain ⟨av, cv, rfl, hmv⟩ := hown3.made
  have hb13 : Below w.heap.size w w3 := ((Below.alloc hb1 hsz1 _).trans hb2).trans hb3
  have HRW : Hid (Row w3 av (ps ++ ys).length (ps ++ ys)) := hmv.row (by have := HXL.out; unfold maxLen; simp; omega) (fun c hc => by
    rcases List.mem_append.1 hc with h | h
    · exact HPB.out c h
    · exact HBY.out c h)
  clear hown3 hown2 hmv hb2 hb3 HO HCP hb1 HN HC HBY HPB hblt
  refine (unpack_all av _ cv (ps ++ ys) _ HRW.out).mono ?_
  rintro e w4 ⟨rfl, rfl⟩
  rw [HU.out.1, HU.out.2.1, HU.out.2.2]
  clear HU HRW HXL
  go_wp2_with fail
  refine (put_all a0 8 _ l0 h0).mono ?_
  rintro e w5 ⟨a5, rfl, hm5, hb5⟩
  rw [HP.out.1, HBL.out.1] at hm5 ⊢
  rw [HP.out.2.1]
  have HM5 : Hid (Row w5 a5 8 (be a0 8)) := hm5.row (by decide) HBL.out.2
  have hb15 : Below w.heap.size w w5 := hb13.trans (hb5.mono hb13.size)
  clear hm5 hb5 hb13 HBL
  go_wp2_with fail
  refine (get_all a5 8 8 (be a0 8) _ HM5.out).mono ?_
  rintro e w6 ⟨rfl, rfl⟩
  rw [HP.out.2.2.1, HP.out.2.2.2]
  clear HP HM5
  go_wp2_with fail
  refine (awake_true _).mono ?_
  rintro e w7 ⟨rfl, -, hb7⟩
  have hall : Below w.heap.size w w7 := hb15.trans (hb7.mono hb15.size)
  clear hb15 hb7
  go_wp2_with fail
  refine (zig_any a1 _ l1 h1).mono ?_
  rintro e w8 ⟨rfl, rfl⟩
  go_wp2_with fail
  refine (zag_any (zigV a1) _ zb0 zb1).mono ?_
  rintro e w8 ⟨rfl, rfl⟩
  rw [HZ.out]
  go_wp2_with fail
  go_ret
  exact ⟨rfl, hall⟩

/-! ### THE ROW's STEP: WRITTEN OUT: LEAVE IT -/
set_option maxRecDepth 100000 in
theorem lifted (os : Os) (started : os.Started) (H : Type) (enc : TypeId × Value → H) :
    ReturnsInHanded {} Try.checked os 7 .any (Rows.bitsBackSpec.pre6 enc Try.prog Try.f7 Rows.bitsBackRow.domain false) (Rows.bitsBackSpec.post enc Try.prog Try.f7 false true false false) := by
  refine returnsInHanded_of_change_sized (C := Try.checked) own started (by kernel_rfl) Try.func7
    (ChangeSpec.witness6 (enc := enc) (C := Try.checked) false ⟨#[], #[.int .u64 0, .int .i64 0, .slice none 0 0], []⟩ 8 (by kernel_rfl) (by kernel_rfl) (by kernel_rfl) (by kernel_rfl)) ?_
  intro W base args ds gs before hval0 hW hcnd hsz0 _
  have hsz : (DataW.weightsEach Try.prog (Try.f7.params.toList ++ Rows.bitsBackSpec.plain.varTypes Try.prog) (ds ++ gs)).all (· ≤ reachBytes) = true := hsz0
  have hval : ∀ (j : Nat) t v, Try.f7.params[j]? = some t → args[j]? = some v → Value.okWide Try.prog W .any base t v := hval0
  have hW' := hW
  obtain ⟨p, q, hA0, hV, rfl, hfz, hnd⟩ := hW
  have hA : DataW.TrodAll enc Try.prog W 0 (fun _ => true) true Try.f7.params.toList args.toList ds p := hA0
  rw [Try.params7] at hA hval hsz
  obtain ⟨v0, vs0, d0, ds0, p0, q0, hargs, rfl, rfl, h0, r0⟩ := trodAll_cons hA
  obtain ⟨v1, vs1, d1, ds1, p1, q1, rfl, rfl, rfl, h1, r1⟩ := trodAll_cons r0
  obtain ⟨v2, vs2, d2, ds2, p2, q2, rfl, rfl, rfl, h2, r2⟩ := trodAll_cons r1
  obtain ⟨rfl, rfl, rfl⟩ := trodAll_nil r2
  obtain rfl : args = #[v0, v1, v2] := by cases args; simp_all
  obtain ⟨rfl, rfl⟩ := trodVars_none hV
  obtain ⟨a0, rfl, rfl, rfl, w0⟩ := open_int Try.underlying22 (hval 0 22 v0 rfl rfl) h0
  obtain ⟨a1, rfl, rfl, rfl, w1⟩ := open_int Try.underlying2 (hval 1 2 v1 rfl rfl) h1
  obtain ⟨a2, len2, cap2, rfl⟩ := okWide_slice Try.underlying23 (hval 2 23 v2 rfl rfl)
  have k2 := h2
  have lt2 : ∀ x ∈ p2, x.block < W.heap.size := by obtain ⟨m, hm⟩ := k2; exact DataW.trod_lt m _ _ _ hm
  obtain ⟨z2, w2, re2⟩ : ∃ zs, IsRow .u8 W a2 len2 cap2 zs ∧ cap2 ≤ 140737488351232 := by
    obtain ⟨fuel, hf⟩ := h2
    rcases open_ints Try.underlying23 Try.underlying5 (by kernel_rfl) hf with ⟨hcs, _⟩ | ⟨x, l, c, zs, hcs, _, hl, hm, hz, hx, hcell, hwz⟩
    · simp [Value.cells] at hcs
      obtain ⟨rfl, rfl, rfl⟩ := hcs
      exact ⟨[], .inl ⟨rfl, rfl, rfl, rfl⟩, by omega⟩
    · simp [Value.cells] at hcs
      obtain ⟨rfl, rfl, rfl⟩ := hcs
      have hd := congrArg Prod.fst hx
      simp only [] at hd
      have hz' : zs.length = cap2 := by simpa using hz
      have hb := sized_slice hsz (j := 2) (t := 23) (e := 5) rfl (by rw [hd]; rfl) Try.underlying23
      have hby : Try.prog.bytesOf 5 = 1 := by kernel_rfl
      rw [hby] at hb
      simp only [lits, List.length_map, List.length_take, List.length_drop, reachBytes] at hb
      exact ⟨zs, .inr ⟨_, rfl, hl, hm, hz', hcell, hwz⟩, by omega⟩
  clear hA0 hval0 hsz0 hsz
  refine (walk a0 a1 a2 len2 cap2 z2 W w0 w1 w2 re2).mono fun e W' ⟨he, bel⟩ => ?_
  subst he
  exact ⟨_, rfl, _, _, _, [], _, [], hW', trodAll_mk1 (shut_bool Try.underlying4 _), (trodAll_cons_mk (shut_int Try.underlying22 w0) (trodAll_cons_mk (shut_int Try.underlying2 w1) (trodAll_cons_mk (Below.trod laidOut (by kernel_rfl) (of_decide_eq_true (by kernel_rfl)) k2 bel lt2) trodAll_mk0))), rfl, bel.frame _, fun h => by cases h⟩

theorem over : Rows.bitsBackRow.holds Try.pinned (OpenSpec.ofChange Rows.bitsBackSpec) :=
  OpenClaim.holds_of_wide 7 Try.f7 rfl rfl rfl rfl rfl rfl rfl ⟨rfl, rfl, rfl, rfl, rfl⟩ rfl rfl rfl rfl rfl (by kernel_rfl) Try.func7 (by kernel_rfl)
    (of_decide_eq_true (by kernel_rfl)) (by unfold Func.isWrapper; first | (rw [if_pos (by decide +kernel)]; kernel_rfl) | (rw [if_neg (by decide +kernel)]; exact ⟨rfl, rfl⟩))
    (fun os started H enc _ => lifted os started H enc)

/-- ████ THE STATEMENT ████ -/
theorem proved : Rows.BitsBackSaid := over
#print axioms proved
end Go.Proofs.Ytbgnfcjnifcenaa.bitsBack
