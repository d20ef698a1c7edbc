/-
  What the walks of layer 9 ask of the program's cabinet (CabP: a relation between its memory and the lists, and a contract a call); a pair of cabinets, the program's and the document's, side by side.
-/
import Derived.Test.YtlhmeebbdjiokaaCabIface
namespace Go.Proofs.Ytlhmeebbdjiokaa
open Go.ChangeShapes Go.WideShapes Go.ChangeAt Go.RowKit
set_option linter.unusedVariables false
set_option linter.unusedSimpArgs false
/-- Behind a call: the cabinet is this one, and nothing else has turned. -/
def PostP (At : World → Nat → (Nat → Prop) → CabM → Prop) (w : World) (g : Nat) (O : Nat → Prop) (c : CabM) (w' : World) : Prop := (∃ O', At w' g O' c ∧ ∀ b, O' b → O b ∨ w.heap.size ≤ b) ∧ Apart O w w'
def NewP (At : World → Nat → (Nat → Prop) → CabM → Prop) (w : World) (z : Int) (e : Ending) (w' : World) : Prop :=
  if newOk z then ∃ g O, e = .returned (.tuple #[.pointer (some ⟨g, 0, none⟩), .int .i64 0]) ∧ At w' g O (newC z.toNat) ∧ (∀ b, O b → w.heap.size ≤ b) ∧ Below w.heap.size w w'
  else e = .returned (.tuple #[.pointer none, .int .i64 1]) ∧ Below w.heap.size w w'
def ReadP (c : CabM) (nm : ByteArray) (e : Ending) (w' : World) : Prop := ∃ a len cap, e = .returned (.tuple #[.slice a len cap, .int .i64 ((readR c nm).2 : Nat)]) ∧ RowL .u8 w' a len (txt (readR c nm).1) ∧ (a = none → len = 0) ∧ len ≤ cap
structure CabP where
  At : World → Nat → (Nat → Prop) → CabM → Prop
  keep : ∀ {w w' : World} {g : Nat} {O P : Nat → Prop} {c : CabM}, At w g O c → Apart P w w' → (∀ b, O b → ¬ P b) → At w' g O c
  lt : ∀ {w : World} {g : Nat} {O : Nat → Prop} {c : CabM}, At w g O c → ∀ b, O b → b < w.heap.size
  new : ∀ (w : World) (z : Int), Calls Try.prog 5 #[.int .i64 z] w fun e w' => NewP At w z e w'
  create : ∀ (w : World) (g : Nat) (O : Nat → Prop) (c : CabM) (n : Nat) (nm : ByteArray), At w g O c → GoodC c n → n ≤ 1000 → nm.size ≤ 9223372036854775806 → Calls Try.prog 10 #[.pointer (some ⟨g, 0, none⟩), .string nm] w fun e w' => e = .returned (.int .i64 ((createR c nm).1 : Nat)) ∧ PostP At w g O (createR c nm).2 w'
  append : ∀ (w : World) (g : Nat) (O : Nat → Prop) (c : CabM) (n : Nat) (nm B : ByteArray) (a : Option Addr) (len cap : Nat), At w g O c → GoodC c n → n ≤ 1000 → nm.size ≤ 9223372036854775806 → RowL .u8 w a len (txt B) → (a = none → len = 0) → (0 < len → ∀ ad, a = some ad → ¬ O ad.block) → len ≤ 1200000 → Calls Try.prog 11 #[.pointer (some ⟨g, 0, none⟩), .string nm, .slice a len cap] w fun e w' => e = .returned (.int .i64 ((appendR c nm B).1 : Nat)) ∧ PostP At w g O (appendR c nm B).2 w'
  sync : ∀ (w : World) (g : Nat) (O : Nat → Prop) (c : CabM) (n : Nat) (nm : ByteArray), At w g O c → GoodC c n → n ≤ 1000 → nm.size ≤ 9223372036854775806 → Calls Try.prog 38 #[.pointer (some ⟨g, 0, none⟩), .string nm] w fun e w' => e = .returned (.int .i64 ((syncR c nm).1 : Nat)) ∧ PostP At w g O (syncR c nm).2 w'
  rename : ∀ (w : World) (g : Nat) (O : Nat → Prop) (c : CabM) (n : Nat) (old nm : ByteArray), At w g O c → GoodC c n → n ≤ 1000 → old.size ≤ 9223372036854775806 → nm.size ≤ 9223372036854775806 → Calls Try.prog 40 #[.pointer (some ⟨g, 0, none⟩), .string old, .string nm] w fun e w' => e = .returned (.int .i64 ((renameR c old nm).1 : Nat)) ∧ PostP At w g O (renameR c old nm).2 w'
  remove : ∀ (w : World) (g : Nat) (O : Nat → Prop) (c : CabM) (n : Nat) (nm : ByteArray), At w g O c → GoodC c n → n ≤ 1000 → nm.size ≤ 9223372036854775806 → Calls Try.prog 42 #[.pointer (some ⟨g, 0, none⟩), .string nm] w fun e w' => e = .returned (.int .i64 ((removeR c nm).1 : Nat)) ∧ PostP At w g O (removeR c nm).2 w'
  turn : ∀ (w : World) (g : Nat) (O : Nat → Prop) (c : CabM) (n : Nat), At w g O c → GoodC c n → n ≤ 1000 → Calls Try.prog 12 #[.pointer (some ⟨g, 0, none⟩)] w fun e w' => e = .returned (.int .i64 ((turnR c).1 : Nat)) ∧ PostP At w g O (turnR c).2 w'
  read : ∀ (w : World) (g : Nat) (O : Nat → Prop) (c : CabM) (n : Nat) (nm : ByteArray), At w g O c → GoodC c n → n ≤ 1000 → nm.size ≤ 9223372036854775806 → Calls Try.prog 14 #[.pointer (some ⟨g, 0, none⟩), .string nm] w fun e w' => ReadP c nm e w' ∧ Below w.heap.size w w'
  list : ∀ (w : World) (g : Nat) (O : Nat → Prop) (c : CabM) (n : Nat), At w g O c → GoodC c n → n ≤ 1000 → Calls Try.prog 20 #[.pointer (some ⟨g, 0, none⟩)] w fun e w' => namesP c e w' ∧ Below w.heap.size w w'
  used : ∀ (w : World) (g : Nat) (O : Nat → Prop) (c : CabM) (n : Nat), At w g O c → GoodC c n → n ≤ 1000 → Calls Try.prog 9 #[.pointer (some ⟨g, 0, none⟩)] w fun e w' => e = .returned (.tuple #[.int .i64 (usedC c : Nat), .int .i64 (c.quota : Nat)]) ∧ Below w.heap.size w w'
  fail : ∀ (w : World) (g : Nat) (O : Nat → Prop) (c : CabM) (n : Nat) (z : Int), At w g O c → GoodC c n → n ≤ 1000 → z ≤ 9223372036854775807 → Calls Try.prog 16 #[.pointer (some ⟨g, 0, none⟩), .int .i64 z] w fun e w' => e = .returned (.tuple #[]) ∧ PostP At w g O (failC c z) w'
  crash : ∀ (w : World) (g : Nat) (O : Nat → Prop) (c : CabM) (n : Nat) (names : Int) (keep : List Int) (t : UInt8) (tn : Nat) (a : Option Addr) (len cap : Nat), At w g O c → GoodC c n → n ≤ 1000 → tn = t.toNat → RowZ w a len keep → (0 < len → ∀ ad, a = some ad → ¬ O ad.block) → len ≤ 9223372036854775807 → Calls Try.prog 13 #[.pointer (some ⟨g, 0, none⟩), .int .i64 names, .slice a len cap, .int .u8 (tn : Nat)] w fun e w' => e = .returned (.tuple #[]) ∧ PostP At w g O (crashC c names keep t) w'
/-- Both cabinets: they share no block, none of theirs is below B or in F. -/
def PairAt (K : CabP) (B : Nat) (F : Nat → Prop) (w : World) (gp gd : Nat) (cp cd : CabM) : Prop :=
  ∃ Op Od, K.At w gp Op cp ∧ CabAt w gd Od cd ∧ (∀ b, Op b → ¬ Od b) ∧ (∀ b, Op b → B ≤ b ∧ ¬ F b) ∧ (∀ b, Od b → B ≤ b ∧ ¬ F b) ∧ (∀ b, F b → b < w.heap.size) ∧ B ≤ w.heap.size
def PairTo (K : CabP) (B : Nat) (F : Nat → Prop) (w : World) (gp gd : Nat) (cp cd : CabM) (w' : World) : Prop := PairAt K B F w' gp gd cp cd ∧ Below B w w' ∧ ∀ x, F x → w'.heap[x]? = w.heap[x]?
theorem CabAt.lt {w : World} {g : Nat} {O : Nat → Prop} {c : CabM} (h : CabAt w g O c) : ∀ b, O b → b < w.heap.size := by
  obtain ⟨_, _, _, _, hr⟩ := h
  exact hr.parts.2.2.2.2.2.2.2.2.2
theorem PairAt.below {K : CabP} {B : Nat} {F : Nat → Prop} {w w' : World} {gp gd : Nat} {cp cd : CabM} (h : PairAt K B F w gp gd cp cd) (hb : Below w.heap.size w w') : PairAt K B F w' gp gd cp cd := by
  obtain ⟨Op, Od, h1, h2, h3, h4, h5, h6, h7⟩ := h
  exact ⟨Op, Od, K.keep h1 (apart_of hb (fun _ => False)) (fun _ _ h => h), h2.below hb, h3, h4, h5, fun b e => Nat.lt_of_lt_of_le (h6 b e) hb.size, Nat.le_trans h7 hb.size⟩
theorem PairAt.to {K : CabP} {B : Nat} {F : Nat → Prop} {w w' : World} {gp gd : Nat} {cp cd : CabM} (h : PairAt K B F w gp gd cp cd) (hb : Below w.heap.size w w') : PairTo K B F w gp gd cp cd w' := by
  refine ⟨h.below hb, ?_, ?_⟩
  · obtain ⟨Op, Od, h1, h2, h3, h4, h5, h6, h7⟩ := h
    exact hb.mono h7
  · obtain ⟨Op, Od, h1, h2, h3, h4, h5, h6, h7⟩ := h
    exact fun x hx => hb.block x (h6 x hx)
theorem PairAt.size {K : CabP} {B : Nat} {F : Nat → Prop} {w : World} {gp gd : Nat} {cp cd : CabM} (h : PairAt K B F w gp gd cp cd) : B ≤ w.heap.size := by
  obtain ⟨Op, Od, h1, h2, h3, h4, h5, h6, h7⟩ := h
  exact h7
/-- A new block is nobody's. -/
theorem PairAt.more {K : CabP} {B : Nat} {F : Nat → Prop} {w w' : World} {gp gd : Nat} {cp cd : CabM} (h : PairAt K B F w gp gd cp cd) (hb : Below w.heap.size w w') (p : Nat) (hp : w.heap.size ≤ p) (hp' : p < w'.heap.size) : PairAt K B (fun b => F b ∨ b = p) w' gp gd cp cd := by
  obtain ⟨Op, Od, h1, h2, h3, h4, h5, h6, h7⟩ := h
  have hlt := K.lt h1
  have hlt2 := h2.lt
  refine ⟨Op, Od, K.keep h1 (apart_of hb (fun _ => False)) (fun _ _ h => h), h2.below hb, h3, fun b e => ⟨(h4 b e).1, ?_⟩, fun b e => ⟨(h5 b e).1, ?_⟩, ?_, Nat.le_trans h7 hb.size⟩
  · rintro (e' | e')
    · exact (h4 b e).2 e'
    · have := hlt b e; omega
  · rintro (e' | e')
    · exact (h5 b e).2 e'
    · have := hlt2 b e; omega
  · rintro b (e | e)
    · exact Nat.lt_of_lt_of_le (h6 b e) hb.size
    · omega
theorem PairAt.less {K : CabP} {B : Nat} {F G : Nat → Prop} {w : World} {gp gd : Nat} {cp cd : CabM} (h : PairAt K B F w gp gd cp cd) (hg : ∀ b, G b → F b) : PairAt K B G w gp gd cp cd := by
  obtain ⟨Op, Od, h1, h2, h3, h4, h5, h6, h7⟩ := h
  exact ⟨Op, Od, h1, h2, h3, fun b e => ⟨(h4 b e).1, fun e' => (h4 b e).2 (hg b e')⟩, fun b e => ⟨(h5 b e).1, fun e' => (h5 b e).2 (hg b e')⟩, fun b e => h6 b (hg b e), h7⟩
theorem PairTo.trans {K : CabP} {B : Nat} {F G : Nat → Prop} {w w1 w2 : World} {gp gd : Nat} {cp cd : CabM} (hb : Below B w w1) (hf : ∀ x, F x → w1.heap[x]? = w.heap[x]?) (h : PairTo K B G w1 gp gd cp cd w2) (hg : ∀ b, F b → G b) : PairTo K B F w gp gd cp cd w2 :=
  ⟨h.1.less hg, hb.trans h.2.1, fun x hx => (h.2.2 x (hg x hx)).trans (hf x hx)⟩
/-- A call of the program's. -/
theorem pair_prog {K : CabP} {B : Nat} {F : Nat → Prop} {w w' : World} {gp gd : Nat} {cp cp' cd : CabM} {Op Od : Nat → Prop} (h1 : K.At w gp Op cp) (h2 : CabAt w gd Od cd) (h3 : ∀ b, Op b → ¬ Od b) (h4 : ∀ b, Op b → B ≤ b ∧ ¬ F b) (h5 : ∀ b, Od b → B ≤ b ∧ ¬ F b) (h6 : ∀ b, F b → b < w.heap.size) (h7 : B ≤ w.heap.size)
    (hp : PostP K.At w gp Op cp' w') : PairTo K B F w gp gd cp' cd w' := by
  obtain ⟨⟨O', ha, hO⟩, hap⟩ := hp
  refine ⟨⟨O', Od, ha, h2.keep hap (fun b e e' => h3 b e' e), fun b e e' => ?_, fun b e => ?_, h5, fun b e => Nat.lt_of_lt_of_le (h6 b e) hap.size, Nat.le_trans h7 hap.size⟩, hap.below (fun b e => (h4 b e).1) h7, fun x hx => hap.block x (h6 x hx) (fun e => (h4 x e).2 hx)⟩
  · rcases hO b e with e | e
    · exact h3 b e e'
    · have := h2.lt b e'; omega
  · rcases hO b e with e | e
    · exact h4 b e
    · exact ⟨Nat.le_trans h7 e, fun e' => by have := h6 b e'; omega⟩
theorem pair_doc {K : CabP} {B : Nat} {F : Nat → Prop} {w w' : World} {gp gd : Nat} {cp cd cd' : CabM} {Op Od : Nat → Prop} (h1 : K.At w gp Op cp) (h2 : CabAt w gd Od cd) (h3 : ∀ b, Op b → ¬ Od b) (h4 : ∀ b, Op b → B ≤ b ∧ ¬ F b) (h5 : ∀ b, Od b → B ≤ b ∧ ¬ F b) (h6 : ∀ b, F b → b < w.heap.size) (h7 : B ≤ w.heap.size)
    (hp : CabPost w gd Od cd' w') : PairTo K B F w gp gd cp cd' w' := by
  obtain ⟨⟨O', ha, hO⟩, hap⟩ := hp
  refine ⟨⟨Op, O', K.keep h1 hap (fun b e e' => h3 b e e'), ha, fun b e e' => ?_, h4, fun b e => ?_, fun b e => Nat.lt_of_lt_of_le (h6 b e) hap.size, Nat.le_trans h7 hap.size⟩, hap.below (fun b e => (h5 b e).1) h7, fun x hx => hap.block x (h6 x hx) (fun e => (h5 x e).2 hx)⟩
  · rcases hO b e' with e' | e'
    · exact h3 b e e'
    · have := K.lt h1 b e; omega
  · rcases hO b e with e | e
    · exact h5 b e
    · exact ⟨Nat.le_trans h7 e, fun e' => by have := h6 b e'; omega⟩
end Go.Proofs.Ytlhmeebbdjiokaa
