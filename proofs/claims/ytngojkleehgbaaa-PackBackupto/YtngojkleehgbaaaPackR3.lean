/-
  The Reader's digests: a region that draws its order, by hand.
-/
import Derived.Test.YtngojkleehgbaaaPackR2
import Derived.Test.YtngojkleehgbaaaHeld
import Derived.Laws.CopyOwn
namespace Go.Proofs.Ytngojkleehgbaaa
open Go.ChangeShapes Go.WideShapes Go.ChangeAt Go.RowKit
set_option linter.unusedVariables false
set_option linter.unusedSimpArgs false
theorem digestT : ArrT 27 32 := ⟨by kernel_rfl, _, Try.underlying27⟩
theorem digestAlloc (w : World) : (Instr.alloc 27 true (.tuple #[])).run Try.prog w = .ok (.pointer (some ⟨w.heap.size, 0, none⟩)) (w.alloc (.cells (encL .u8 zeroD) 27)) := by kernel_rfl
theorem digestS_take (s : RSt) : digestS s = (if (takeS 32 s).1 = [] then zeroD else (takeS 32 s).1, (takeS 32 s).2) ∧ ((takeS 32 s).1 = [] ∨ (takeS 32 s).1.length = 32) := by
  unfold digestS takeS
  by_cases h0 : s.2 = 0
  · rw [if_pos h0]
    by_cases hl : s.1.length < 32
    · rw [if_pos hl, if_neg (by omega)]; exact ⟨by simp, .inl rfl⟩
    · rw [if_neg hl, if_pos ⟨h0, by omega⟩]
      have h32 : (s.1.take 32).length = 32 := by rw [List.length_take]; omega
      refine ⟨?_, .inr h32⟩
      rw [if_neg (fun e => by dsimp only at e; rw [e] at h32; simp at h32)]
  · rw [if_neg h0, if_neg (fun h => h0 h.1)]; exact ⟨by simp, .inl rfl⟩
theorem held_copy {P : Program} {ops : Array Oper} {o : Oper} {a : Act} {w : World} {K : Act → World → Prop} {Q : Exit → Act → World → Prop} (hgd : o.guard = none) (d s : Operand) (dT sT : TypeId)
    (ho : o.op = .call { callee := .builtin .copy, args := #[d, s], argTypes := #[dT, sT] }) (elem : TypeId) (hu : P.underlying dT = some (.slice elem)) (hsz : (P.info? elem).map (·.size) = some 1)
    (dp sp : Option Addr) (dLen dCap sLen sCap : Nat) (hd : a.eval d = .slice dp dLen dCap) (hs : a.eval s = .slice sp sLen sCap)
    (g off : Nat) (cur : List Value) (t : TypeId) (hg : w.heap[g]? = some (.cells cur.toArray t (0, 0))) (cs : List Value) (hn : cs.length = Nat.min sLen dLen)
    (hpos : 0 < cs.length → dp = some ⟨g, off, none⟩ ∧ ∃ ad, sp = some ad ∧ ∀ j v, cs[j]? = some v → w.cell? (ad.add j) = some v)
    (hfit : off + cs.length ≤ cur.length) (h1 : ∀ v ∈ cs, v.oneCell' = true) (B : Nat) (w0 : World) (hb : Below B w0 w) (hBg : B ≤ g) (dst : Option Tmp) (hdst : o.dst = dst)
    (h : ∀ w', Hid (w'.heap[g]? = some (.cells (splice cur off cs).toArray t (0, 0))) → Below B w0 w' → K (a.put dst (goInt cs.length)) w') : Oper.wp P o a w K Q := by
  subst hdst
  have hw : Region.wanted o (yielded ops a.tmps) = true := by simp [Region.wanted, hgd]
  have := step_copy_splice (P := P) (ops := ops) (Q := Q) (E := True) hgd d s dT sT ho elem hu hsz dp sp dLen dCap sLen sCap hd hs g off cur t hg cs hn hpos hfit h1 B w0 hb hBg h
  rwa [if_pos hw] at this
theorem slice_all (g : Nat) (W : World) : (Instr.sliceAt 27 (.pointer (some ⟨g, 0, none⟩)) none none none).run Try.prog W = .ok (.slice (some ⟨g, 0, none⟩) 32 32) W := by
  go_simp
theorem RdAt.keep {w w' : World} {g r : Nat} {s : RSt} (h : RdAt w g r s) (hg : w'.heap[g]? = w.heap[g]?) (hr : w'.heap[r]? = w.heap[r]?) (hs : w.heap.size ≤ w'.heap.size) : RdAt w' g r s := by
  obtain ⟨a, cap, h1, h2, h3, h4, h5, h6, h7⟩ := h
  refine ⟨a, cap, hg.trans h1, ⟨h2.1, ?_⟩, h3, h4, ⟨h5.1, h5.2.1, Nat.lt_of_lt_of_le h5.2.2 hs⟩, h6, h7⟩
  rcases h2.2 with h2 | ⟨b, off, ha, hlt, hc⟩
  · exact .inl h2
  · have : b = r := h5.1 _ ha
    subst this
    exact .inr ⟨b, off, ha, Nat.lt_of_lt_of_le hlt hs, fun i hi => by rw [← hc i hi]; exact World.cell?_of_block hr⟩
set_option maxHeartbeats 1000000 in
theorem pdigest_any (w : World) (g r : Nat) (s : RSt) (hR : RdAt w g r s) : Calls Try.prog 29 #[.pointer (some ⟨g, 0, none⟩)] w (RdR w g r (.agg (encL .u8 (digestS s).1)) (digestS s).2) := by
  obtain ⟨hdg, h32⟩ := digestS_take s
  have hlt := hR.lt
  have hRn := hR.ne
  have b1 : Below w.heap.size w ((w.alloc (.cells (encL .u8 zeroD) 27)).alloc (.cells (encL .u8 zeroD) 27)) := (below_new w _).alloc (by simp) _
  have HD : Hid (Blk ((w.alloc (.cells (encL .u8 zeroD) 27)).alloc (.cells (encL .u8 zeroD) 27)) (w.heap.size + 1) 27 .u8 zeroD ∧ Blk ((w.alloc (.cells (encL .u8 zeroD) 27)).alloc (.cells (encL .u8 zeroD) 27)) w.heap.size 27 .u8 zeroD) := by
    refine ⟨?_, (Blk.new w _ _ _).alloc _⟩
    have := Blk.new (w.alloc (.cells (encL .u8 zeroD) 27)) 27 .u8 zeroD
    simpa using this
  have HRD : Hid (RdAt ((w.alloc (.cells (encL .u8 zeroD) 27)).alloc (.cells (encL .u8 zeroD) 27)) g r s ∧ Below w.heap.size w ((w.alloc (.cells (encL .u8 zeroD) 27)).alloc (.cells (encL .u8 zeroD) 27))) := ⟨hR.below b1, b1⟩
  go_enter Try.func29, Try.ntmps29
  go_wp2_with (refine alloc_op rfl 27 rfl _ (digestAlloc _) ?_)
  have hsz : (w.alloc (.cells (encL .u8 zeroD) 27)).heap.size = w.heap.size + 1 := by simp
  rw [hsz]
  generalize (w.alloc (.cells (encL .u8 zeroD) 27)).alloc (.cells (encL .u8 zeroD) 27) = w1 at *
  clear hsz b1 hR
  refine wp_region_held_drew (S := fun w' => True) (by kernel_rfl) trivial (fun hHeld => ?_)
  try simp only [Act.put, List.setIfInBounds_toArray, List.set_cons_zero, List.set_cons_succ]
  refine held_take 0 (some 4) (.slice (some ⟨w.heap.size + 1, 0, none⟩) 32 32) rfl rfl (by kernel_rfl) (by kernel_rfl) (by kernel_rfl) (fun _ _ _ h => h) rfl (fun w' hS => ?_) hHeld ?_
  · have := slice_all (w.heap.size + 1) w'
    go_simp
  try simp only [Act.put, List.setIfInBounds_toArray, List.set_cons_zero, List.set_cons_succ]
  refine held_take 1 (some 5) (.pointer (some ⟨g, 0, none⟩)) rfl rfl (by kernel_rfl) (by kernel_rfl) (by kernel_rfl) (fun _ _ _ h => h) rfl (fun w' hS => ?_) hHeld ?_
  · go_simp
  try simp only [Act.put, List.setIfInBounds_toArray, List.set_cons_zero, List.set_cons_succ]
  refine held_one (i := 2) (by kernel_rfl) rfl rfl (fun K hK => ?_)
  go_simp
  have hRd : RdAt w1.drew g r s := HRD.out.1
  refine (take_any w1.drew g r s hRd 32 (by decide)).mono ?_
  clear hRd
  have HF : Hid (digestS s = (if (takeS 32 s).1 = [] then zeroD else (takeS 32 s).1, (takeS 32 s).2)) := hdg
  clear hdg
  generalize digestS s = F at *
  generalize takeS 32 s = T at *
  rintro _ w2 ⟨ax, cap, rfl, hr, hn, hoff, hR2, ho⟩
  dsimp only
  refine hK.out _ _ trivial ?_
  clear hK K
  have hkeep : ∀ k, k < w1.heap.size → k ≠ g → w2.heap[k]? = w1.heap[k]? := ho.block
  have hl1 := HD.out.1.lt
  have hD2 : Blk w2 (w.heap.size + 1) 27 .u8 zeroD := (hkeep _ hl1 (by omega)).trans HD.out.1
  have hE2 : Blk w2 w.heap.size 27 .u8 zeroD := (hkeep _ (by omega) (by omega)).trans HD.out.2
  refine held_one (i := 3) (by kernel_rfl) rfl rfl (fun K hK => ?_)
  refine held_copy (ops := #[]) rfl (.tmp 4) (.tmp 6) 41 41 rfl 5 Try.underlying41 (by kernel_rfl) (some ⟨w.heap.size + 1, 0, none⟩) ax 32 32 T.1.length cap rfl rfl (w.heap.size + 1) 0 (zeroD.map fun c => Value.int .u8 (c : Nat)) 27 hD2 (T.1.map fun c => Value.int .u8 (c : Nat)) ?_ ?_ ?_ ?_ (w.heap.size + 1) w2 (Below.refl _ _) (Nat.le_refl _) (some 7) rfl ?_
  · rw [List.length_map]; rcases h32 with h | h
    · rw [h]; rfl
    · rw [h]; rfl
  · intro hp
    rw [List.length_map] at hp
    refine ⟨rfl, ?_⟩
    obtain ⟨b, off, rfl, -, hc⟩ := hr.at 0 hp
    refine ⟨_, rfl, fun j v hj => ?_⟩
    have hj' : j < T.1.length := by have := (List.getElem?_eq_some_iff.1 hj).1; simpa using this
    rw [addr_add, hc j hj', ← hj]
    simp [hj']
  · simp only [List.length_map]; rcases h32 with h | h
    · rw [h]; simp
    · rw [h]; decide
  · intro v hv
    obtain ⟨z, _, rfl⟩ := List.mem_map.1 hv
    rfl
  intro w3 h3 hb3
  have hR3 : RdAt w3 g r T.2 := hR2.keep (hb3.block g (by omega)) (hb3.block r (by omega)) hb3.size
  have hF1 : Blk w3 (w.heap.size + 1) 27 .u8 F.1 ∧ F.1.length = 32 := by
    rw [HF.out]
    dsimp only
    rcases h32 with h | h
    · rw [if_pos h]
      rw [h] at h3
      exact ⟨h3.out, rfl⟩
    · rw [if_neg (fun e => by rw [e] at h; simp at h)]
      refine ⟨?_, h⟩
      have e : splice (zeroD.map fun c => Value.int .u8 (c : Nat)) 0 (T.1.map fun c => Value.int .u8 (c : Nat)) = T.1.map fun c => Value.int .u8 (c : Nat) := by
        unfold splice
        rw [List.take_zero, List.nil_append, Nat.zero_add, List.drop_eq_nil_of_le (by rw [List.length_map, List.length_map, h]; decide), List.append_nil]
      rw [e] at h3
      exact h3.out
  have hE3 : Blk w3 w.heap.size 27 .u8 zeroD := (hb3.block _ (by omega)).trans hE2
  have ho3 : Only g w w3 := by
    have b := HRD.out.2
    exact ⟨hb3.os.trans (ho.os.trans b.os), hb3.tape.trans (ho.tape.trans b.tape), hb3.output.trans (ho.output.trans b.output), Nat.le_trans b.size (Nat.le_trans ho.size hb3.size), fun k hk hn => (hb3.block k (by omega)).trans ((hkeep k (by omega) hn).trans (b.block k hk))⟩
  clear h3 hb3 hD2 hE2 hkeep hR2 ho hr hn hoff
  refine hK.out _ _ trivial ?_
  clear hK K
  refine wpAnyH_done (by kernel_rfl) ?_ _
  go_wp2_with (first
    | (refine load_op rfl 27 (.tmp 3) rfl ⟨w.heap.size + 1, 0, none⟩ rfl _ (hF1.1.load digestT hF1.2) ?_)
    | (refine store_op rfl 27 (.tmp 2) (.tmp 8) rfl ⟨w.heap.size, 0, none⟩ rfl _ rfl (hE3.store digestT rfl hF1.2) ?_))
  refine bodyPost_ret (v := .agg (encL .u8 F.1)) ?_ rfl ⟨rfl, ?_, ?_⟩
  · rw [results_cell rfl]
    exact (hE3.setRow F.1).load digestT hF1.2
  · have e : F.2 = T.2 := by rw [HF.out]
    rw [e]
    exact hR3.keep (setRow_other w3 _ g _ (by omega)) (setRow_other w3 _ r _ (by omega)) (by simp [World.setRow])
  · exact ⟨ho3.os, ho3.tape, ho3.output, by simpa [World.setRow] using ho3.size, fun k hk hn => (setRow_other w3 _ k _ (by omega)).trans (ho3.block k hk hn)⟩
end Go.Proofs.Ytngojkleehgbaaa
