/-
  The program's cabinet: Turn, Create.
-/
import Derived.Test.YtlhmeebbdjiokaaCabPMoves
namespace Go.Proofs.Ytlhmeebbdjiokaa
open Go.ChangeShapes Go.WideShapes Go.ChangeAt Go.RowKit Go.Maps Go.MapKept Go.ChangeMaps
set_option linter.unusedVariables false
set_option linter.unusedSimpArgs false
theorem fold_lens (c : CabM) (k : Nat) : ((c.wait.take k).foldl withC c.sure).length ≤ c.sure.length + c.wait.length := by
  have h : ∀ (xs : List (ByteArray × ByteArray × Nat)) (l : List (ByteArray × Nat)), (xs.foldl withC l).length ≤ l.length + xs.length := by
    intro xs
    induction xs with
    | nil => intro l; exact Nat.le_refl _
    | cons x xs ih =>
      intro l
      have h1 := ih (withC l x)
      have h2 := with_len l x
      rw [List.foldl_cons, List.length_cons]
      omega
  have := h (c.wait.take k) c.sure
  rw [List.length_take] at this
  omega
/-- What settle asks of the changes since. -/
def WaitOk (c : CabM) : Prop := ∀ x ∈ c.wait, x.2.1.size ≤ maxLen ∧ x.1.size ≤ maxLen ∧ (x.1.size = 0 → x.2.1.size ≠ 0)
theorem sizes_le {c : CabM} (hi : InvC c) {l : List (ByteArray × Nat)} : sizesC c.files l ≤ l.length * 1048576 := by
  unfold sizesC
  induction l with
  | nil => exact Nat.zero_le _
  | cons e l ih =>
    rw [List.map_cons, List.sum_cons, List.length_cons]
    have := (hi.2.2.1 e.2).2
    have h2 : (c.files.getD e.2 (ByteArray.empty, 0)).1.size ≤ 1048576 := this
    omega
set_option maxRecDepth 100000 in
set_option maxHeartbeats 4000000 in
theorem pturn_any (w : World) (g : Nat) (O : Nat → Prop) (c : CabM) (n : Nat) (h : ProgAt w g O c) (hg : GoodC c n) (hn : n ≤ 1000) :
    Calls Try.prog 12 #[.pointer (some ⟨g, 0, none⟩)] w fun e w' => e = .returned (.int .i64 ((turnR c).1 : Nat)) ∧ PostP ProgAt w g O (turnR c).2 w' := by
  obtain ⟨fa, dv, mn, ml, vs, hraw, ho⟩ := h
  have c7 := hraw.cells.2.2.2.2.2.2.2
  have HRD : Hid _ := pready_any w g c.off c7
  have HGO : Hid _ := pgoes_is w g O c fa dv mn ml vs hraw hg.2.1
  have HSELF : Hid (PostP ProgAt w g O c w) := post_self ⟨fa, dv, mn, ml, vs, hraw, ho⟩
  have HO : Hid (OrdC c) := ho
  have HG : Hid (GoodC c n) := hg
  clear hraw ho hg c7
  cases hoff : c.off with
  | true =>
    have HR : Hid (turnR c = (11, c)) := by unfold Hid turnR turnE; rw [hoff]; exact done_no (by decide) _ _
    rw [hoff] at HRD
    clear hoff HGO HO HG
    go_enter Try.func12, Try.ntmps12
    go_wp2_with fail
    refine Calls.mono HRD.out ?_
    rintro _ w1 ⟨rfl, hw1⟩
    replace hw1 := hw1.symm
    subst hw1
    go_wp2_with fail
    go_ret
    exact ⟨by rw [HR.out]; rfl, by rw [HR.out]; exact HSELF.out⟩
  | false =>
    have HT0 : Hid (turnR c = doneC 0 c turnC) := by unfold Hid turnR turnE; rw [hoff]; rfl
    rw [hoff] at HRD
    clear hoff HSELF
    rcases power_two c with hpe | hpe
    · have HR : Hid (turnR c = (0, turnC (powerC c))) := HT0.out.trans (done_yes hpe _)
      have hd : decide (powerE c = 11) = false := by rw [hpe]; rfl
      rw [hd] at HGO
      have HOP : Hid (OrdC (powerC c)) := ord_power HO.out
      have HGP : Hid (GoodC (powerC c) n) := good_power HG.out
      clear hpe HT0 hd HO HG
      generalize powerC c = c' at *
      have HWL : Hid (c'.wait.length ≤ 1099511627776 ∧ ∀ k, ((c'.wait.take k).foldl withC c'.sure).length ≤ 1099511627776) := by
        have h1 := HGP.out.2.2.2.1
        exact ⟨by omega, fun k => by have := fold_lens c' k; omega⟩
      go_enter Try.func12, Try.ntmps12
      go_wp2_with fail
      refine Calls.mono HRD.out ?_
      rintro _ w0 ⟨rfl, hw1⟩
      replace hw1 := hw1.symm
      subst hw1
      go_wp2_with fail
      refine Calls.mono HGO.out ?_
      rintro _ w1 ⟨rfl, hr1, ha1⟩
      have HR1 : Hid (ProgIs w1 g O c' fa dv mn ml vs) := hr1
      have HA1 : Hid (Apart O w w1) := ha1
      obtain ⟨az, cs, hvs, -, -, -⟩ := hr1.since.at
      have c2 := hr1.cells.2.2.1
      rw [hvs] at c2
      obtain ⟨ns, hns⟩ : ∃ ns, ns = c'.wait.length := ⟨_, rfl⟩
      rw [← hns] at c2
      have HNS : Hid (ns = c'.wait.length) := hns
      have HSE : Hid (Calls Try.prog 29 #[.pointer (some ⟨g, 0, none⟩), .int .i64 (ns : Nat)] w1 fun e w' => e = .returned (.tuple #[]) ∧ RawPost w1 g O (turnC c') (usedC c') (fun i => takenC c' i = true) fa dv w') := by
        have hs := psettle_any w1 g O c' _ _ fa dv mn ml vs hr1 ns (by omega) HWL.out.2 HWL.out.1 (fun x hx => ?_)
        · rw [hns, List.take_length, ← HOP.out.2.2.2.2] at hs
          rw [hns]
          exact hs
        · obtain ⟨h1, h2, h3⟩ := HOP.out.2.2.1 x hx
          exact ⟨Nat.le_trans h1 (by decide), Nat.le_trans h3 (by decide), h2⟩
      clear hr1 ha1 hvs hns HRD HGO
      go_wp2_with fail
      refine Calls.mono HSE.out ?_
      rintro _ w2 ⟨rfl, O2, mn2, ml2, vs2, hr2, hO2, ha2⟩
      have HR2 : Hid (ProgRaw w2 g O2 (turnC c') (usedC c') (fun i => takenC c' i = true) fa dv mn2 ml2 vs2) := hr2
      have HA2 : Hid (Apart O w1 w2) := ha2
      have HO2 : Hid (∀ b, O2 b → O b ∨ w1.heap.size ≤ b) := hO2
      have e0 := hr2.cells.1
      clear hr2 ha2 hO2 c2 HSE
      go_wp2_with fail
      have HSI : Hid _ := psize_any w2 mn2 c'.now fa c'.files HR2.out.mapNow HOP.out.sortNow (fun x k hk => by
        have hf := HR2.out.file k (inv_files HGP.out.1 hk).2
        obtain ⟨a, cap, -, h0, -, -, -, -, -, hl⟩ := hf.len
        exact ⟨a, cap, h0, hl⟩) (by
        have h1 := sizes_le HGP.out.1 (l := c'.now)
        have h2 := HGP.out.2.2.1
        omega)
      refine Calls.mono HSI.out ?_
      rintro _ w3 ⟨rfl, hb3⟩
      have HR3 : Hid (ProgRaw w3 g O2 (turnC c') (usedC c') (fun i => takenC c' i = true) fa dv mn2 ml2 vs2) := HR2.out.below hb3
      have d3 := HR3.out.cells.2.2.2.1
      have f3 := HR3.out.frozen 3
      have HUS : Hid (usedC (turnC c') = sizesC c'.files c'.now) := used_turn HOP.out HGP.out.1
      have HP : Hid (PostP ProgAt w g O (turnC c') (w3.setCell ⟨g, 3, none⟩ (.int .i64 (sizesC c'.files c'.now : Nat)))) := by
        have hp := HR3.out.plain 3 (.int .i64 (sizesC c'.files c'.now : Nat)) (c' := turnC c') (tk' := sizesC c'.files c'.now) rfl rfl rfl rfl rfl
        rw [← HUS.out] at hp ⊢
        have hp2 := hp.less (A' := fun i => takenC (turnC c') i = true) (fun i hi => by
          rcases (taken_iff _ _).1 hi with ⟨e, he, rfl⟩ | ⟨x, hx, _⟩
          · exact HGP.out.1.1 e he
          · cases hx)
        exact post_from HA1.out ⟨⟨O2, ⟨fa, dv, mn2, ml2, vs2, hp2, ord_turn HOP.out⟩, HO2.out⟩, (HA2.out.same (apart_of hb3 _)).set HR1.out.og _ _⟩
      clear hb3 HSI
      generalize sizesC c'.files c'.now = sz at *
      generalize usedC c' = uz at *
      go_wp2_with fail
      go_ret
      exact ⟨by rw [HR.out]; rfl, by rw [HR.out]; exact HP.out⟩
    · have HR : Hid (turnR c = (11, powerC c)) := HT0.out.trans (done_down hpe _)
      have hd : decide (powerE c = 11) = true := by rw [hpe]; rfl
      rw [hd] at HGO
      have HOP : Hid (OrdC (powerC c)) := ord_power HO.out
      clear hpe HT0 hd HO HG
      go_enter Try.func12, Try.ntmps12
      go_wp2_with fail
      refine Calls.mono HRD.out ?_
      rintro _ w0 ⟨rfl, hw1⟩
      replace hw1 := hw1.symm
      subst hw1
      go_wp2_with fail
      refine Calls.mono HGO.out ?_
      rintro _ w1 ⟨rfl, hr1, ha1⟩
      have HP : Hid (PostP ProgAt w g O (powerC c) w1) := post_same (hr1.at HOP.out) ha1
      clear hr1 ha1
      go_wp2_with fail
      go_ret
      exact ⟨by rw [HR.out]; rfl, by rw [HR.out]; exact HP.out⟩
end Go.Proofs.Ytlhmeebbdjiokaa
