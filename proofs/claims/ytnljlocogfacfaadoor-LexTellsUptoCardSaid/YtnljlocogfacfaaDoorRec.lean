/-
  A region of a deferred function: behind the call of recover the plain walk goes on.
-/
import Derived.Recover
import Derived.Tactics
import Derived.Calls
namespace Go.Proofs.YtnljlocogfacfaaDoor
namespace Lx
set_option maxRecDepth 100000
section
variable {P : Program} {Q : Exit → Act → List Frame → World → Prop} {cs : List Frame}

theorem upon_more {o : Oper} {a : Act} {n1 n2 : Act → World → Prop} {q : Exit → Act → World → Prop} {r : Result Next} (hn : ∀ a w, n1 a w → n2 a w) (h : o.upon P a n1 q r) : o.upon P a n2 q r := by
  unfold Oper.upon at h ⊢
  split at h
  · exact hn _ _ h
  · exact hn _ _ h
  · exact hn _ _ h
  · refine Calls.mono h (fun e w hh => ?_)
    cases e with
    | returned v => exact hn _ _ hh
    | panicked c => exact hh
    | outgrown => exact hh
  · exact Rows.mono h (fun v w hh => hn _ _ hh)
  · exact h
  · exact h

theorem opsS_of_list {ops : Array Oper} (hno : ¬ LetsOut (fun e a w => Q e a cs w)) (l : List Oper) : ∀ (k : Nat) (a : Act) (w : World), (∀ j, l[j]? = ops[k + j]?) → wpList P ops (fun e a w => Q e a cs w) l a w → wpOpsS P ops Q (List.range' k l.length) a cs w := by
  induction l with
  | nil => intro k a w _ h; simpa [wpOpsS, wpList] using h
  | cons o l ih =>
    intro k a w hk h
    have h0 : ops[k]? = some o := by simpa using (hk 0).symm
    have ih' := fun a w => ih (k + 1) a w (fun j => by have := hk (j + 1); simpa [Nat.add_assoc, Nat.add_comm 1 j] using this)
    simp only [List.length_cons, List.range'_succ, wpOpsS, h0]
    unfold wpList at h
    split at h
    · rename_i hw
      rw [if_pos hw]
      rcases h with h | h
      · have h2 := upon_more (n2 := fun a' w' => wpOpsS P ops Q (List.range' (k + 1) l.length) a' cs w') ih' h
        split
        · rename_i w' hr
          rw [hr] at h2
          exact h2.elim
        · exact h2
      · exact absurd h.2 hno
    · rename_i hw
      rw [if_neg hw]
      exact ih' _ _ h

theorem opsS_recover {ops : Array Oper} {i : Nat} {rest : List Nat} {o : Oper} {a : Act} {w w' : World} {v : Value} {cs' : List Frame} (ho : ops[i]? = some o) (hg : o.guard = none)
    (hr : (execOp a.eval o).run P w = .ok .recover w') (hc : recoverD cs = some (v, cs')) (h : wpOpsS P ops Q rest (a.put o.dst v) cs' w') : wpOpsS P ops Q (i :: rest) a cs w := by
  have hw : Region.wanted o (yielded ops a.tmps) = true := by simp [Region.wanted, hg]
  simp only [wpOpsS, ho, hw, if_true, hr, hc]
  exact h
theorem opsS_recover_nil {ops : Array Oper} {i : Nat} {rest : List Nat} {o : Oper} {a : Act} {w w' : World} (ho : ops[i]? = some o) (hg : o.guard = none)
    (hr : (execOp a.eval o).run P w = .ok .recover w') (hc : recoverD cs = none) (h : wpOpsS P ops Q rest (a.put o.dst .nilIface) cs w') : wpOpsS P ops Q (i :: rest) a cs w := by
  have hw : Region.wanted o (yielded ops a.tmps) = true := by simp [Region.wanted, hg]
  simp only [wpOpsS, ho, hw, if_true, hr, hc]
  exact h
theorem region_recover {id : Nat} {ops : Array Oper} {o : Oper} {l : List Oper} {a : Act} {w w' : World} {v : Value} {cs' : List Frame} (hops : ops.toList = o :: l) (hg : o.guard = none)
    (hr : (execOp a.eval o).run P w = .ok .recover w') (hc : recoverD cs = some (v, cs')) (hno : ¬ LetsOut (fun e a w => Q e a cs' w)) (h : wpList P ops (fun e a w => Q e a cs' w) l (a.put o.dst v) w') :
    (Code.region id ops false).wpS P Q a cs w := by
  obtain ⟨L⟩ := ops
  obtain rfl : L = o :: l := hops
  refine wpS_region ?_
  rw [List.range_eq_range', show (o :: l).toArray.size = l.length + 1 from rfl, List.range'_succ]
  refine opsS_recover (by simp) hg hr hc ?_
  exact opsS_of_list hno l 1 _ _ (fun j => by simp [Nat.add_comm]) h
theorem region_recover_nil {id : Nat} {ops : Array Oper} {o : Oper} {l : List Oper} {a : Act} {w w' : World} (hops : ops.toList = o :: l) (hg : o.guard = none)
    (hr : (execOp a.eval o).run P w = .ok .recover w') (hc : recoverD cs = none) (hno : ¬ LetsOut (fun e a w => Q e a cs w)) (h : wpList P ops (fun e a w => Q e a cs w) l (a.put o.dst .nilIface) w') :
    (Code.region id ops false).wpS P Q a cs w := by
  obtain ⟨L⟩ := ops
  obtain rfl : L = o :: l := hops
  refine wpS_region ?_
  rw [List.range_eq_range', show (o :: l).toArray.size = l.length + 1 from rfl, List.range'_succ]
  refine opsS_recover_nil (by simp) hg hr hc ?_
  exact opsS_of_list hno l 1 _ _ (fun j => by simp [Nat.add_comm]) h
end
end Lx
end Go.Proofs.YtnljlocogfacfaaDoor
