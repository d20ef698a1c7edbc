/-
  The program's Make, as the document's answer.
-/
import Derived.Test.YtbfgkogmojnilaaDoorTagPSort
import Derived.Test.YtbfgkogmojnilaaDoorTagPSound
import Derived.Laws.CopyRow
import Derived.Laws.MakeOwn
namespace Go.Proofs.YtbfgkogmojnilaaDoor
open Go.ChangeShapes Go.WideShapes Go.ChangeAt Go.RowKit
set_option linter.unusedVariables false
set_option linter.unusedSimpArgs false
/-- A slice of elements of K cells copied into the front of a row of the call's own. -/
theorem run_copyK {P : Program} (w : World) (dT sT ty elem : TypeId) (K g o dLen dCap : Nat) (a : Addr) (sLen sCap : Nat) (cur : Array Value) (t : TypeId) (cs : List Value) (n : Nat)
    (hu : P.underlying dT = some (.slice elem)) (hs : (P.info? elem).map (·.size) = some K)
    (hg : w.heap[g]? = some (.cells cur t (0, 0))) (hn : n = Nat.min sLen dLen) (hcs : cs.length = n * K)
    (hsrc : ∀ j v, cs[j]? = some v → w.cell? (a.add j) = some v) (hfit : o + cs.length ≤ cur.size) (h1 : ∀ v ∈ cs, v.oneCell' = true) :
    (Builtin.copy_ #[dT, sT] ty #[.slice (some ⟨g, o, none⟩) dLen dCap, .slice (some a) sLen sCap]).run P w =
      .ok (goInt n) (w.setRow g (cur.toList.take o ++ cs ++ cur.toList.drop (o + cs.length)).toArray) := by
  have hl := run_loadCells_list (P := P) w a cs hsrc
  have hst := run_storeCells_at P g o t cs 0 cur w hg (by simpa using hfit) h1
  rw [hcs] at hl
  cases hq : P.info? elem with
  | none => simp [hq] at hs
  | some i =>
    have hi : i.size = K := by simpa [hq] using hs
    simp [Builtin.copy_, run_underlying hu, Builtin.lenOf, Builtin.firstCells, sizeOf, typeInfo, hq, hi, ← hn, hl, hst]
theorem run_copyK_none {P : Program} (w : World) (dT sT ty elem : TypeId) (K : Nat) (d : Addr) (a : Option Addr) (dCap sCap : Nat) (hu : P.underlying dT = some (.slice elem)) (hs : (P.info? elem).map (·.size) = some K) :
    (Builtin.copy_ #[dT, sT] ty #[.slice (some d) 0 dCap, .slice a 0 sCap]).run P w = .ok (goInt 0) w := by
  cases hq : P.info? elem with
  | none => simp [hq] at hs
  | some i =>
    have hl : ∀ (x : Addr), (loadCells x 0).run P w = .ok #[] w := fun x => by simpa using run_loadCells_list (P := P) w x [] (by simp)
    cases a <;> simp [Builtin.copy_, run_underlying hu, Builtin.lenOf, Builtin.firstCells, sizeOf, typeInfo, hq, storeCells, hl]
/-- A new slice of tags, and tags that came in copied into it: two operations. -/
theorem make_tags (w : World) {ops : Array Oper} {rest : List Oper} {o : Oper} {a : Act} {Q : Exit → Act → World → Prop} (hg : o.guard = none) (l c : Operand) (hop : o.op = Op.makeSlice 22 l c) (n : Nat) (hl : a.eval l = .int .i64 (n : Int)) (hc : a.eval c = .int .i64 (n : Int)) (hn : n ≤ 8)
    (hK : ∀ cur : Array Value, cur.size = n * 2 → wpList Tryd.prog ops Q rest (a.put o.dst (.slice (some ⟨w.heap.size, 0, none⟩) n n)) (w.alloc (.cells cur 40))) :
    wpList Tryd.prog ops Q (o :: rest) a w := by
  obtain ⟨i, hi, hzz⟩ := Option.map_eq_some_iff.1 tagT
  simp only [Prod.mk.injEq] at hzz
  obtain ⟨hz, hs, hb⟩ := hzz
  refine wpList_plain hg fun K hK' => ?_
  have hrun := run_make (P := Tryd.prog) w 22 40 i _ Tryd.underlying22 hi hz .i64 .i64 n n (by omega) (Int.le_refl _) (by rw [hb]; omega) (by omega)
  unfold Oper.wp
  simp only [execOp, hop, hl, hc, hrun, Sem.run_bind, Result.andThen_ok, Int.toNat_natCast]
  refine hK' _ _ (hK _ ?_)
  rw [size_madeCells, hs]
theorem copy_tags (w : World) (ty : TypeId) (g n : Nat) (ad : Option Addr) (sCap : Nat) (cur : Array Value) (hb : w.heap[g]? = some (.cells cur 40 (0, 0))) (hcs : cur.size = n * 2) (ts : List (ByteArray × ByteArray)) (hn : ts.length = n) (hr : RowT w ad ts) :
    (Builtin.copy_ #[22, 22] ty #[.slice (some ⟨g, 0, none⟩) n n, .slice ad n sCap]).run Tryd.prog w = .ok (goInt n) (w.setRow g (encTs ts).toArray) := by
  by_cases h0 : n = 0
  · subst h0
    have e := List.eq_nil_of_length_eq_zero hn
    have ec : cur = #[] := Array.eq_empty_of_size_eq_zero (by omega)
    rw [run_copyK_none w _ _ _ 40 2 ⟨g, 0, none⟩ ad 0 sCap Tryd.underlying22 (by kernel_rfl), e]
    rw [show (encTs []).toArray = cur by rw [ec]; rfl, setRow_self w g cur _ _ hb]
    rfl
  · rcases hr with h | ⟨b, off, rfl, hb2, hc⟩
    · omega
    · rw [run_copyK w _ _ _ 40 2 g 0 n n ⟨b, off, none⟩ n sCap cur 40 (encTs ts) n Tryd.underlying22 (by kernel_rfl) hb (Nat.min_self n).symm (by rw [encTs_length, hn]) (rowT_cells (.inr ⟨b, off, rfl, hb2, hc⟩)) (by rw [encTs_length, hn]; omega) (encTs_one ts)]
      congr 2
      have : cur.toList.drop (0 + (encTs ts).length) = [] := List.drop_eq_nil_of_le (by rw [encTs_length, hn, Array.length_toList]; omega)
      rw [this]
      simp
end Go.Proofs.YtbfgkogmojnilaaDoor
