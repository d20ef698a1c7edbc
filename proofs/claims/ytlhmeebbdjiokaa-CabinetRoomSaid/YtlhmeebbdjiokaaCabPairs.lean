/-
  What the law's 'play' holds, and what each call of either cabinet makes of it.
-/
import Derived.Test.YtlhmeebbdjiokaaCabChange
import Derived.Deep.QuietTactic
import Derived.BigQuiet
namespace Go.Proofs.Ytlhmeebbdjiokaa
open Go.ChangeShapes Go.WideShapes Go.ChangeAt Go.RowKit
set_option linter.unusedVariables false
set_option linter.unusedSimpArgs false
def InS (S : World → Prop) : Type := { w : World // S w }
def InS.w {S : World → Prop} (p : InS S) : World := p.1
theorem InS.h {S : World → Prop} (p : InS S) : S p.w := p.2
theorem InS.some {S : World → Prop} {w : World} (h : S w) : Nonempty (InS S) := ⟨⟨w, h⟩⟩
theorem wp_region_in {P : Program} {S : World → Prop} {id : Nat} {Q : Exit → Act → World → Prop} {a : Act} {w : World} {l : List Oper} (hm : P.follows .mixedOrders = true) (hB : Region.lexB .any l.toArray = true) (hS : S w.drew)
    (h : wpQuiet P l.toArray (fun w' => ∃ p : InS S, w' = p.w) (fun a' => ∀ w', (∃ p : InS S, w' = p.w) → Q .normal a' w') l a) : (Code.region id l.toArray true).wp P Q a w :=
  wp_region_quiet (C := fun w' => ∃ p : InS S, w' = p.w) hm hB ⟨⟨w.drew, hS⟩, rfl⟩ (by simpa using h)
theorem Calls.in_of {P : Program} {S : World → Prop} {f : FuncId} {args : Array Value} {p : InS S} {v : Value} (h : Calls P f args p.w fun e w' => e = .returned v ∧ S w') :
    Calls P f args p.w fun e w'' => e = .returned v ∧ ∃ q : InS S, w'' = q.w :=
  h.mono fun _ w'' ⟨he, hS⟩ => ⟨he, ⟨w'', hS⟩, rfl⟩
theorem texts_same (w : World) (a b : Option Addr) (ca cb : Nat) (ss : List ByteArray) (ha : RowS w a ss) (hb : RowS w b ss) (hl : ss.length ≤ 9223372036854775807) :
    Calls Try.prog 22 #[.slice a ss.length ca, .slice b ss.length cb] w fun e w' => e = .returned (.bool true) ∧ Below w.heap.size w w' := by
  have HA : Hid (∀ W, Below w.heap.size w W → ∀ i, i < ss.length → ∃ x off, a = some ⟨x, off, none⟩ ∧ W.cell? ⟨x, off + i, none⟩ = some (.string (textAt ss i))) := by
    intro W hW i hi
    rcases ha.below hW with h0 | ⟨x, off, e, -, hc⟩
    · omega
    · exact ⟨x, off, e, hc i hi⟩
  have HB : Hid (∀ W, Below w.heap.size w W → ∀ i, i < ss.length → ∃ x off, b = some ⟨x, off, none⟩ ∧ W.cell? ⟨x, off + i, none⟩ = some (.string (textAt ss i))) := by
    intro W hW i hi
    rcases hb.below hW with h0 | ⟨x, off, e, -, hc⟩
    · omega
    · exact ⟨x, off, e, hc i hi⟩
  clear ha hb
  generalize ss.length = n at *
  go_enter Try.func22, Try.ntmps22
  go_wp2_with fail
  go_loopw [5] (fun ix wr => ∃ (wz : World) (i : Nat), wz = wr ∧ i ≤ n ∧ ix = .int .i64 i ∧ Below w.heap.size w wz) (fun ix _ => n - (intOf ix).toNat)
  case atStart => exact ⟨w, 0, rfl, Nat.zero_le _, rfl, Below.refl _ _⟩
  case round =>
    obtain ⟨wr, i, hwr, hi, rfl, hbr⟩ := hrel
    subst hwr
    by_cases hin : i < n
    · obtain ⟨x, off, rfl, -⟩ := HA.out wr hbr i hin
      obtain ⟨y, off2, rfl, -⟩ := HB.out wr hbr i hin
      have q1 : ∀ p : InS (fun W => Below w.heap.size w W), p.w.cell? ⟨x, off + i, none⟩ = some (.string (textAt ss i)) := fun p => by
        obtain ⟨x', o', e, h⟩ := HA.out p.w p.h i hin
        cases e
        exact h
      have q2 : ∀ p : InS (fun W => Below w.heap.size w W), p.w.cell? ⟨y, off2 + i, none⟩ = some (.string (textAt ss i)) := fun p => by
        obtain ⟨x', o', e, h⟩ := HB.out p.w p.h i hin
        cases e
        exact h
      have hne := InS.some (S := fun W => Below w.heap.size w W) hbr
      have hSd : Below w.heap.size w wr.drew := hbr.drew
      clear HA HB
      generalize textAt ss i = t at *
      go_wp2_with fail
      refine wp_region_in (S := fun W => Below w.heap.size w W) (by kernel_rfl) (by kernel_rfl) hSd ?_
      repeat (go_big_quiet_step (fail))
      refine wpQuiet_nil ?_
      intro _ hw
      obtain ⟨p, hp⟩ := hw
      have HB9 : Hid (Below w.heap.size w p.w) := p.h
      subst hp
      generalize p.w = z9 at *
      clear q1 q2 hne hSd hbr
      go_wp2_with fail
      go_roundw
      case rel => exact ⟨z9, i + 1, rfl, by omega, rfl, HB9.out⟩
      case measure => simp [intOf]; omega
    · have hA : ¬ ((i : Int) < (n : Int)) := by omega
      clear HA HB
      go_wp2_with fail
      go_ret
      exact ⟨rfl, hbr⟩
/-- Both cabinets, the pair at block q, the step at block p; below B, and in F, all is as it was. -/
structure PlayAt (Z : CabP) (B : Nat) (F : Nat → Prop) (w0 : World) (q p gp gd : Nat) (sv : Array Value) (cp cd : CabM) (W : World) : Prop where
  pair : PairAt Z B (FP F p) W gp gd cp cd
  q0 : W.heap[q]? = some (.cells #[.pointer (some ⟨gp, 0, none⟩), .pointer (some ⟨gd, 0, none⟩)] 33 (0, 0))
  p0 : W.heap[p]? = some (.cells sv 38 (0, 0))
  low : Below B w0 W
  kept : ∀ x, F x → W.heap[x]? = w0.heap[x]?
  fq : F q
section
variable {Z : CabP} {B : Nat} {F : Nat → Prop} {w0 W : World} {q p gp gd : Nat} {sv : Array Value} {cp cd cp' cd' : CabM} {n : Nat}
theorem PlayAt.to {W' : World} (h : PlayAt Z B F w0 q p gp gd sv cp cd W) (ht : PairTo Z B (FP F p) W gp gd cp' cd' W') : PlayAt Z B F w0 q p gp gd sv cp' cd' W' :=
  ⟨ht.1, (ht.2.2 q (.inl h.fq)).trans h.q0, (ht.2.2 p (.inr rfl)).trans h.p0, h.low.trans ht.2.1, fun x hx => (ht.2.2 x (.inl hx)).trans (h.kept x hx), h.fq⟩
theorem PlayAt.below {W' : World} (h : PlayAt Z B F w0 q p gp gd sv cp cd W) (hb : Below W.heap.size W W') : PlayAt Z B F w0 q p gp gd sv cp cd W' := h.to (h.pair.to hb)
theorem PlayAt.cells (h : PlayAt Z B F w0 q p gp gd sv cp cd W) : W.cell? ⟨q, 0, none⟩ = some (.pointer (some ⟨gp, 0, none⟩)) ∧ W.cell? ⟨q, 1, none⟩ = some (.pointer (some ⟨gd, 0, none⟩)) ∧ ∀ i, W.cell? ⟨p, i, none⟩ = sv[i]? :=
  ⟨by rw [cell_of_row W q 0 _ _ _ h.q0]; rfl, by rw [cell_of_row W q 1 _ _ _ h.q0]; rfl, fun i => cell_of_row W p i _ _ _ h.p0⟩
theorem PlayAt.done (h : PlayAt Z B F w0 q p gp gd sv cp cd W) : PairTo Z B F w0 gp gd cp cd W := ⟨h.pair.less (fun b hb => .inl hb), h.low, h.kept⟩
theorem small_of (hg : GoodC cd n) (hn : n ≤ 1000) : cd.now.length ≤ 1000 ∧ cd.sure.length + cd.wait.length ≤ 1000 ∧ cd.files.length ≤ 1000 := by
  have := hg.2.2
  unfold SmallC at this
  omega
theorem pl_pfail (h : PlayAt Z B F w0 q p gp gd sv cp cd W) (hg : GoodC cp n) (hn : n ≤ 1000) (z : Int) (hz : z ≤ 9223372036854775807) :
    Calls Try.prog 16 #[.pointer (some ⟨gp, 0, none⟩), .int .i64 z] W fun e w' => e = .returned (.tuple #[]) ∧ PlayAt Z B F w0 q p gp gd sv (failC cp z) cd w' := by
  obtain ⟨Op, Od, a1, a2, a3, a4, a5, a6, a7⟩ := h.pair
  exact (Z.fail W gp Op cp n z a1 hg hn hz).mono fun e w' ⟨he, hp⟩ => ⟨he, h.to (pair_prog a1 a2 a3 a4 a5 a6 a7 hp)⟩
theorem pl_dfail (h : PlayAt Z B F w0 q p gp gd sv cp cd W) (z : Int) :
    Calls Try.prog 17 #[.pointer (some ⟨gd, 0, none⟩), .int .i64 z] W fun e w' => e = .returned (.tuple #[]) ∧ PlayAt Z B F w0 q p gp gd sv cp (failC cd z) w' := by
  obtain ⟨Op, Od, a1, a2, a3, a4, a5, a6, a7⟩ := h.pair
  exact (rfail_any W gd Od cd a2 z).mono fun e w' ⟨he, hp⟩ => ⟨he, h.to (pair_doc a1 a2 a3 a4 a5 a6 a7 hp)⟩
theorem pl_pcrash (h : PlayAt Z B F w0 q p gp gd sv cp cd W) (hg : GoodC cp n) (hn : n ≤ 1000) (names : Int) (keep : List Int) (t : UInt8) (tn : Nat) (ht : tn = t.toNat) (a : Option Addr) (len cap : Nat) (hk : RowZ W a len keep) (hd : 0 < len → ∀ ad, a = some ad → FP F p ad.block ∨ ad.block < B ∨ W.heap.size ≤ ad.block) (hl : len ≤ 9223372036854775807) :
    Calls Try.prog 13 #[.pointer (some ⟨gp, 0, none⟩), .int .i64 names, .slice a len cap, .int .u8 (tn : Nat)] W fun e w' => e = .returned (.tuple #[]) ∧ PlayAt Z B F w0 q p gp gd sv (crashC cp names keep t) cd w' := by
  obtain ⟨Op, Od, a1, a2, a3, a4, a5, a6, a7⟩ := h.pair
  refine (Z.crash W gp Op cp n names keep t tn a len cap a1 hg hn ht hk (fun hp ad he ho => ?_) hl).mono fun e w' ⟨he, hp⟩ => ⟨he, h.to (pair_prog a1 a2 a3 a4 a5 a6 a7 hp)⟩
  rcases hd hp ad he with k | k | k
  · exact (a4 _ ho).2 k
  · have := (a4 _ ho).1; omega
  · have := Z.lt a1 _ ho; omega
theorem pl_pcrash2 {W0 : World} (h0 : PlayAt Z B F w0 q p gp gd sv cp cd W0) (hb : Below W0.heap.size W0 W) (hg : GoodC cp n) (hn : n ≤ 1000) (names : Int) (keep : List Int) (t : UInt8) (tn : Nat) (ht : tn = t.toNat) (a : Option Addr) (len cap : Nat) (hk : RowZ W a len keep) (hd : 0 < len → ∀ ad, a = some ad → W0.heap.size ≤ ad.block) (hl : len ≤ 9223372036854775807) :
    Calls Try.prog 13 #[.pointer (some ⟨gp, 0, none⟩), .int .i64 names, .slice a len cap, .int .u8 (tn : Nat)] W fun e w' => e = .returned (.tuple #[]) ∧ PlayAt Z B F w0 q p gp gd sv (crashC cp names keep t) cd w' := by
  obtain ⟨Op, Od, a1, a2, a3, a4, a5, a6, a7⟩ := h0.pair
  have a1' := Z.keep a1 (apart_of hb (fun _ => False)) (fun _ _ h => h)
  refine (Z.crash W gp Op cp n names keep t tn a len cap a1' hg hn ht hk (fun hp ad he ho => ?_) hl).mono fun e w' ⟨he, hp⟩ => ⟨he, (h0.below hb).to (pair_prog a1' (a2.below hb) a3 a4 a5 (fun b e => Nat.lt_of_lt_of_le (a6 b e) hb.size) (Nat.le_trans a7 hb.size) hp)⟩
  have := hd hp ad he
  have := Z.lt a1 _ ho
  omega
/-- What the pair and the step hold. -/
def PlC (q p gp gd : Nat) (sv : Array Value) (W : World) : Prop := W.cell? ⟨q, 0, none⟩ = some (.pointer (some ⟨gp, 0, none⟩)) ∧ W.cell? ⟨q, 1, none⟩ = some (.pointer (some ⟨gd, 0, none⟩)) ∧ ∀ i, W.cell? ⟨p, i, none⟩ = sv[i]?
theorem pl_dcrash (h : PlayAt Z B F w0 q p gp gd sv cp cd W) (hg : GoodC cd n) (hn : n ≤ 1000) (names : Int) (keep : List Int) (t : UInt8) (tn : Nat) (ht : tn = t.toNat) (a : Option Addr) (len cap : Nat) (hk : RowZ W a len keep) (hd : 0 < len → ∀ ad, a = some ad → ad.block < B) (hl : len ≤ 9223372036854775807) :
    Calls Try.prog 18 #[.pointer (some ⟨gd, 0, none⟩), .int .i64 names, .slice a len cap, .int .u8 (tn : Nat)] W fun e w' => e = .returned (.tuple #[]) ∧ PlayAt Z B F w0 q p gp gd sv cp (crashC cd names keep t) w' := by
  obtain ⟨Op, Od, a1, a2, a3, a4, a5, a6, a7⟩ := h.pair
  have hs := small_of hg hn
  exact (rcrash_any W gd Od cd a2 hg.1 names keep t tn ht a len cap hk (fun hp ad he ho => by have := hd hp ad he; have := (a5 _ ho).1; omega) hl (by omega) (by omega) (by omega)).mono fun e w' ⟨he, hp⟩ => ⟨he, h.to (pair_doc a1 a2 a3 a4 a5 a6 a7 hp)⟩
theorem pl_pread (h : PlayAt Z B F w0 q p gp gd sv cp cd W) (hg : GoodC cp n) (hn : n ≤ 1000) (nm : ByteArray) (hs : nm.size ≤ 9223372036854775806) :
    Calls Try.prog 14 #[.pointer (some ⟨gp, 0, none⟩), .string nm] W fun e w' => ∃ a len cap, e = .returned (.tuple #[.slice a len cap, .int .i64 ((readR cp nm).2 : Nat)]) ∧ RowL .u8 w' a len (txt (readR cp nm).1) ∧ (a = none → len = 0) ∧ Below W.heap.size W w' ∧ PlayAt Z B F w0 q p gp gd sv cp cd w' := by
  obtain ⟨Op, Od, a1, a2, a3, a4, a5, a6, a7⟩ := h.pair
  exact (Z.read W gp Op cp n nm a1 hg hn hs).mono fun e w' ⟨⟨a, len, cap, he, hr, hn, hc⟩, hb⟩ => ⟨a, len, cap, he, hr, hn, hb, h.below hb⟩
theorem pl_dread (h : PlayAt Z B F w0 q p gp gd sv cp cd W) (hg : GoodC cd n) (hn : n ≤ 1000) (nm : ByteArray) :
    Calls Try.prog 19 #[.pointer (some ⟨gd, 0, none⟩), .string nm] W fun e w' => e = .returned (.tuple #[.string (readR cd nm).1, .int .i64 ((readR cd nm).2 : Nat)]) ∧ w' = W := by
  obtain ⟨Op, Od, a1, a2, a3, a4, a5, a6, a7⟩ := h.pair
  have hs := small_of hg hn
  exact rread_any W gd Od cd a2 nm (by omega) (fun k hk => (inv_files hg.1 hk).1) (by omega)
theorem pl_plist (h : PlayAt Z B F w0 q p gp gd sv cp cd W) (hg : GoodC cp n) (hn : n ≤ 1000) :
    Calls Try.prog 20 #[.pointer (some ⟨gp, 0, none⟩)] W fun e w' => namesP cp e w' ∧ Below W.heap.size W w' ∧ PlayAt Z B F w0 q p gp gd sv cp cd w' := by
  obtain ⟨Op, Od, a1, a2, a3, a4, a5, a6, a7⟩ := h.pair
  exact (Z.list W gp Op cp n a1 hg hn).mono fun e w' ⟨he, hb⟩ => ⟨he, hb, h.below hb⟩
theorem pl_dlist (h : PlayAt Z B F w0 q p gp gd sv cp cd W) (hg : GoodC cd n) (hn : n ≤ 1000) :
    Calls Try.prog 21 #[.pointer (some ⟨gd, 0, none⟩)] W fun e w' => namesP cd e w' ∧ Below W.heap.size W w' ∧ PlayAt Z B F w0 q p gp gd sv cp cd w' := by
  obtain ⟨Op, Od, a1, a2, a3, a4, a5, a6, a7⟩ := h.pair
  have hs := small_of hg hn
  exact (rlist_any W gd Od cd a2 (by omega)).mono fun e w' ⟨he, hb⟩ => ⟨he, hb, h.below hb⟩
theorem pl_pused (h : PlayAt Z B F w0 q p gp gd sv cp cd W) (hg : GoodC cp n) (hn : n ≤ 1000) :
    Calls Try.prog 9 #[.pointer (some ⟨gp, 0, none⟩)] W fun e w' => e = .returned (.tuple #[.int .i64 (usedC cp : Nat), .int .i64 (cp.quota : Nat)]) ∧ Below W.heap.size W w' ∧ PlayAt Z B F w0 q p gp gd sv cp cd w' := by
  obtain ⟨Op, Od, a1, a2, a3, a4, a5, a6, a7⟩ := h.pair
  exact (Z.used W gp Op cp n a1 hg hn).mono fun e w' ⟨he, hb⟩ => ⟨he, hb, h.below hb⟩
theorem pl_dused (h : PlayAt Z B F w0 q p gp gd sv cp cd W) (hg : GoodC cd n) (hn : n ≤ 1000) :
    Calls Try.prog 23 #[.pointer (some ⟨gd, 0, none⟩)] W fun e w' => e = .returned (.int .i64 (usedC cd : Nat)) ∧ PlayAt Z B F w0 q p gp gd sv cp cd w' := by
  obtain ⟨Op, Od, a1, a2, a3, a4, a5, a6, a7⟩ := h.pair
  have hs := small_of hg hn
  exact (rused_any W gd Od cd a2 hg.1 (by omega) (by omega) (by omega)).mono fun e w' ⟨he, hb⟩ => ⟨he, h.below hb⟩
theorem PlayAt.quota (h : PlayAt Z B F w0 q p gp gd sv cp cd W) : W.cell? ⟨gd, 0, none⟩ = some (.int .i64 (cd.quota : Nat)) := by
  obtain ⟨Op, Od, a1, ⟨vf, vn, vs, vw, hraw⟩, -⟩ := h.pair
  exact hraw.cells.1
end
end Go.Proofs.Ytlhmeebbdjiokaa
