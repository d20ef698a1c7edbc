/-
  Layer 9's laws: a cabinet that a law has made itself: its calls, and that nothing else turns; awake.
-/
import Derived.Test.YtlhmeebbdjiokaaCabProg
import Derived.Lib.SlBytesConst
namespace Go.Proofs.Ytlhmeebbdjiokaa
open Go.ChangeShapes Go.WideShapes Go.ChangeAt Go.RowKit
set_option linter.unusedVariables false
set_option linter.unusedSimpArgs false
/-- A cabinet of the law's own: all its blocks are from B on; below B the world is as it was. -/
def CabIn (B : Nat) (w0 w : World) (g : Nat) (c : CabM) : Prop := ∃ O, ProgAt w g O c ∧ (∀ b, O b → B ≤ b) ∧ Below B w0 w ∧ B ≤ w.heap.size
section
variable {B : Nat} {w0 w w' : World} {g : Nat} {c c' : CabM}
theorem CabIn.under (h : CabIn B w0 w g c) : Below B w0 w := by
  obtain ⟨O, _, _, h, _⟩ := h
  exact h
theorem CabIn.below (h : CabIn B w0 w g c) (hb : Below w.heap.size w w') : CabIn B w0 w' g c := by
  obtain ⟨O, h1, h2, h3, h4⟩ := h
  exact ⟨O, h1.keep (apart_of hb (fun _ => False)) (fun _ _ h => h), h2, h3.trans (hb.mono h4), Nat.le_trans h4 hb.size⟩
theorem CabIn.post {O : Nat → Prop} (h2 : ∀ b, O b → B ≤ b) (h3 : Below B w0 w) (h4 : B ≤ w.heap.size) (hp : PostP ProgAt w g O c' w') : CabIn B w0 w' g c' := by
  obtain ⟨⟨O', h, hO⟩, ha⟩ := hp
  refine ⟨O', h, fun b e => ?_, h3.trans (ha.below h2 h4), Nat.le_trans h4 ha.size⟩
  rcases hO b e with e | e
  · exact h2 b e
  · exact Nat.le_trans h4 e
end
section
variable {B : Nat} {w0 w : World} {g : Nat} {c : CabM} {n : Nat}
theorem in_new (w : World) (z : Nat) (hz : newOk z = true) : Calls Try.prog 5 #[.int .i64 (z : Nat)] w fun e w' => ∃ g, e = .returned (.tuple #[.pointer (some ⟨g, 0, none⟩), .int .i64 0]) ∧ CabIn w.heap.size w w' g (newC z) :=
  (progP.new w z).mono fun e w' h => by
    unfold NewP at h
    rw [if_pos hz] at h
    obtain ⟨g, O, he, ha, hO, hb⟩ := h
    exact ⟨g, he, O, ha, hO, hb, hb.size⟩
theorem in_create (h : CabIn B w0 w g c) (hg : GoodC c n) (hn : n ≤ 1000) (nm : ByteArray) (hs : nm.size ≤ 9223372036854775806) :
    Calls Try.prog 10 #[.pointer (some ⟨g, 0, none⟩), .string nm] w fun e w' => e = .returned (.int .i64 ((createR c nm).1 : Nat)) ∧ CabIn B w0 w' g (createR c nm).2 := by
  obtain ⟨O, h1, h2, h3, h4⟩ := h
  exact (progP.create w g O c n nm h1 hg hn hs).mono fun e w' ⟨he, hp⟩ => ⟨he, CabIn.post h2 h3 h4 hp⟩
theorem in_append (h : CabIn B w0 w g c) (hg : GoodC c n) (hn : n ≤ 1000) (nm X : ByteArray) (hs : nm.size ≤ 9223372036854775806) (a : Option Addr) (len cap : Nat) (hrow : RowL .u8 w a len (txt X)) (hnil : a = none → len = 0) (ha : 0 < len → ∀ ad, a = some ad → ad.block < B) (hlen : len ≤ 1200000) :
    Calls Try.prog 11 #[.pointer (some ⟨g, 0, none⟩), .string nm, .slice a len cap] w fun e w' => e = .returned (.int .i64 ((appendR c nm X).1 : Nat)) ∧ CabIn B w0 w' g (appendR c nm X).2 := by
  obtain ⟨O, h1, h2, h3, h4⟩ := h
  exact (pappend_any w g O c n nm X a len cap h1 hg hn hs hrow hnil (fun hp ad e ho => by have := ha hp ad e; have := h2 _ ho; omega) hlen).mono fun e w' ⟨he, hp⟩ => ⟨he, CabIn.post h2 h3 h4 hp⟩
theorem row_new_fr (w : World) (xs : List Nat) (fr : Nat × Nat) : RowL .u8 (w.alloc (.cells (encL .u8 xs) 5 fr)) (some ⟨w.heap.size, 0, none⟩) xs.length xs :=
  ⟨rfl, .inr ⟨w.heap.size, 0, rfl, by simp, fun i hi => by rw [Nat.zero_add, World.cell?_alloc_mark, encL_get _ _ _ hi]⟩⟩
/-- .. bytes that were just made. -/
theorem in_append_new (h : CabIn B w0 w g c) (hg : GoodC c n) (hn : n ≤ 1000) (nm X : ByteArray) (hs : nm.size ≤ 9223372036854775806) (len cap : Nat) (xs : Array Value) (fr : Nat × Nat) (hx : xs = encL .u8 (txt X)) (hlen : X.size = len) (hl : len ≤ 1200000) :
    Calls Try.prog 11 #[.pointer (some ⟨g, 0, none⟩), .string nm, .slice (some ⟨w.heap.size, 0, none⟩) len cap] (w.alloc (.cells xs 5 fr)) fun e w' => e = .returned (.int .i64 ((appendR c nm X).1 : Nat)) ∧ CabIn B w0 w' g (appendR c nm X).2 := by
  obtain ⟨O, h1, h2, h3, h4⟩ := h
  have hb := below_new w (.cells xs 5 fr)
  have h1' := h1.keep (apart_of hb (fun _ => False)) (fun _ _ h => h)
  have hrow : RowL .u8 (w.alloc (.cells xs 5 fr)) (some ⟨w.heap.size, 0, none⟩) len (txt X) := by
    have := row_new_fr w (txt X) fr
    rw [txt_length, hlen] at this
    rw [hx]
    exact this
  exact (progP.append _ g O c n nm X _ len cap h1' hg hn hs hrow (fun e => by cases e) (fun _ ad e ho => by cases e; exact absurd (h1.lt _ ho) (Nat.lt_irrefl _)) hl).mono fun e w' ⟨he, hp⟩ => ⟨he, CabIn.post h2 (h3.trans (hb.mono h4)) (Nat.le_trans h4 hb.size) hp⟩
/-- .. numbers that were just made, for a Crash. -/
theorem in_crash_new (h : CabIn B w0 w g c) (hg : GoodC c n) (hn : n ≤ 1000) (names : Int) (z : Int) (t : UInt8) (tn : Nat) (ht : tn = t.toNat) :
    Calls Try.prog 13 #[.pointer (some ⟨g, 0, none⟩), .int .i64 names, .slice (some ⟨w.heap.size, 0, none⟩) 1 1, .int .u8 (tn : Nat)] (w.alloc (.cells #[.int .i64 z] 3)) fun e w' => e = .returned (.tuple #[]) ∧ CabIn B w0 w' g (crashC c names [z] t) := by
  obtain ⟨O, h1, h2, h3, h4⟩ := h
  have hb := below_new w (.cells #[.int .i64 z] 3)
  have h1' := h1.keep (apart_of hb (fun _ => False)) (fun _ _ h => h)
  have hrow : RowZ (w.alloc (.cells #[.int .i64 z] 3)) (some ⟨w.heap.size, 0, none⟩) 1 [z] := by
    refine ⟨rfl, .inr ⟨w.heap.size, 0, rfl, by simp, fun i hi => ?_⟩⟩
    have : i = 0 := by omega
    subst this
    exact cell_of_row _ w.heap.size 0 _ _ _ (heap_alloc_last w _)
  exact (progP.crash _ g O c n names [z] t tn _ 1 1 h1' hg hn ht hrow (fun _ ad e ho => by cases e; exact absurd (h1.lt _ ho) (Nat.lt_irrefl _)) (by decide)).mono fun e w' ⟨he, hp⟩ => ⟨he, CabIn.post h2 (h3.trans (hb.mono h4)) (Nat.le_trans h4 hb.size) hp⟩
theorem in_sync (h : CabIn B w0 w g c) (hg : GoodC c n) (hn : n ≤ 1000) (nm : ByteArray) (hs : nm.size ≤ 9223372036854775806) :
    Calls Try.prog 38 #[.pointer (some ⟨g, 0, none⟩), .string nm] w fun e w' => e = .returned (.int .i64 ((syncR c nm).1 : Nat)) ∧ CabIn B w0 w' g (syncR c nm).2 := by
  obtain ⟨O, h1, h2, h3, h4⟩ := h
  exact (progP.sync w g O c n nm h1 hg hn hs).mono fun e w' ⟨he, hp⟩ => ⟨he, CabIn.post h2 h3 h4 hp⟩
theorem in_turn (h : CabIn B w0 w g c) (hg : GoodC c n) (hn : n ≤ 1000) :
    Calls Try.prog 12 #[.pointer (some ⟨g, 0, none⟩)] w fun e w' => e = .returned (.int .i64 ((turnR c).1 : Nat)) ∧ CabIn B w0 w' g (turnR c).2 := by
  obtain ⟨O, h1, h2, h3, h4⟩ := h
  exact (progP.turn w g O c n h1 hg hn).mono fun e w' ⟨he, hp⟩ => ⟨he, CabIn.post h2 h3 h4 hp⟩
theorem in_fail (h : CabIn B w0 w g c) (hg : GoodC c n) (hn : n ≤ 1000) (z : Int) (hz : z ≤ 9223372036854775807) :
    Calls Try.prog 16 #[.pointer (some ⟨g, 0, none⟩), .int .i64 z] w fun e w' => e = .returned (.tuple #[]) ∧ CabIn B w0 w' g (failC c z) := by
  obtain ⟨O, h1, h2, h3, h4⟩ := h
  exact (progP.fail w g O c n z h1 hg hn hz).mono fun e w' ⟨he, hp⟩ => ⟨he, CabIn.post h2 h3 h4 hp⟩
theorem in_crash (h : CabIn B w0 w g c) (hg : GoodC c n) (hn : n ≤ 1000) (names : Int) (keep : List Int) (t : UInt8) (tn : Nat) (ht : tn = t.toNat) (a : Option Addr) (len cap : Nat) (hk : RowZ w a len keep) (ha : 0 < len → ∀ ad, a = some ad → ad.block < B) (hl : len ≤ 9223372036854775807) :
    Calls Try.prog 13 #[.pointer (some ⟨g, 0, none⟩), .int .i64 names, .slice a len cap, .int .u8 (tn : Nat)] w fun e w' => e = .returned (.tuple #[]) ∧ CabIn B w0 w' g (crashC c names keep t) := by
  obtain ⟨O, h1, h2, h3, h4⟩ := h
  exact (pcrash_any w g O c n names keep t tn a len cap h1 hg hn ht hk (fun hp ad e ho => by have := ha hp ad e; have := h2 _ ho; omega) hl).mono fun e w' ⟨he, hp⟩ => ⟨he, CabIn.post h2 h3 h4 hp⟩
theorem in_read (h : CabIn B w0 w g c) (hg : GoodC c n) (hn : n ≤ 1000) (nm : ByteArray) (hs : nm.size ≤ 9223372036854775806) :
    Calls Try.prog 14 #[.pointer (some ⟨g, 0, none⟩), .string nm] w fun e w' => ReadP c nm e w' ∧ CabIn B w0 w' g c ∧ Below w.heap.size w w' := by
  have h0 := h
  obtain ⟨O, h1, h2, h3, h4⟩ := h
  exact (progP.read w g O c n nm h1 hg hn hs).mono fun e w' ⟨he, hb⟩ => ⟨he, h0.below hb, hb⟩
theorem in_list (h : CabIn B w0 w g c) (hg : GoodC c n) (hn : n ≤ 1000) :
    Calls Try.prog 20 #[.pointer (some ⟨g, 0, none⟩)] w fun e w' => namesP c e w' ∧ CabIn B w0 w' g c ∧ Below w.heap.size w w' := by
  have h0 := h
  obtain ⟨O, h1, h2, h3, h4⟩ := h
  exact (progP.list w g O c n h1 hg hn).mono fun e w' ⟨he, hb⟩ => ⟨he, h0.below hb, hb⟩
theorem in_used (h : CabIn B w0 w g c) (hg : GoodC c n) (hn : n ≤ 1000) :
    Calls Try.prog 9 #[.pointer (some ⟨g, 0, none⟩)] w fun e w' => e = .returned (.tuple #[.int .i64 (usedC c : Nat), .int .i64 (c.quota : Nat)]) ∧ CabIn B w0 w' g c ∧ Below w.heap.size w w' := by
  have h0 := h
  obtain ⟨O, h1, h2, h3, h4⟩ := h
  exact (progP.used w g O c n h1 hg hn).mono fun e w' ⟨he, hb⟩ => ⟨he, h0.below hb, hb⟩
end
theorem conv_const (w : World) (C : Array Value) (n c g : Nat) (hg : g = w.heap.size) :
    Sem.run Try.prog (convert 35 35 (Value.slice (some ⟨g, 0, none⟩) n c)) (w.alloc (.cells C 5)) = .ok (.slice (some ⟨g, 0, none⟩) n c) (w.alloc (.cells C 5 (C.size, C.size + 1))) := by
  subst hg
  exact Lib.run_convert_bytes_const w 35 5 C n c Try.underlying35 Try.underlying5
/-! awake. -/
def nameA : ByteArray := ByteArray.mk #[97]
def aw1 : CabM := (createR (newC 100) nameA).2
def aw2 : CabM := (appendR aw1 nameA (ByteArray.mk #[120, 121])).2
def aw3 : CabM := (turnR aw2).2
def aw4 : CabM := crashC aw3 0 [1] 0
theorem aw_e1 : (createR (newC 100) nameA).1 = 0 := by kernel_rfl
theorem aw_e2 : (appendR aw1 nameA (ByteArray.mk #[120, 121])).1 = 0 := by kernel_rfl
theorem aw_e3 : (turnR aw2).1 = 0 := by kernel_rfl
theorem aw_r : readR aw4 nameA = (ByteArray.mk #[120], 0) := by kernel_rfl
theorem aw_u : usedC aw4 = 1 := by kernel_rfl
theorem aw_q : aw4.quota = 100 := by kernel_rfl
theorem aw_g1 : GoodC aw1 1 := good_create (good_new 100 (by decide)) nameA
theorem aw_g2 : GoodC aw2 2 := good_append aw_g1 nameA _
theorem aw_g3 : GoodC aw3 3 := good_turn aw_g2
theorem aw_g4 : GoodC aw4 3 := good_crash aw_g3 0 [1] 0
end Go.Proofs.Ytlhmeebbdjiokaa
