/-
  Texts that lie one behind the other: Rf UsA UsB UsP UsT.
-/
import Derived.Test.YtgnafcnokenogaaC2
import Derived.RangeFuncNested
import Derived.RangeFuncBound
import Derived.RangeFuncCalls
import Derived.RangeFuncLeaves
import Derived.OrdersIn
import Derived.TacticsIn
import Derived.Lib.Hide
import Derived.Maps.OwnIn
import Derived.Maps.AppendAt
import Derived.Maps.Views
import Derived.Maps.OwnOps
import Derived.Shelf.Abstract
import Derived.WalkKit
import Derived.OwnWalkIn
import Derived.TacticsInMore
import Derived.LoopNIn
import Derived.LoopIn
import Derived.Deep.Cut
namespace Go.Proofs.Ytgnafcnokenogaa
open Go Go.RowKit
namespace Lx
set_option maxRecDepth 100000
section
variable {P : Program} {ops : Array Oper} {Q : Exit → Act → World → Prop} {n : Nat}
/-- What is walked plainly is walked within the wide fence. -/
theorem ops_in (hQ : ¬ LetsOut Q) : ∀ (is : List Nat) (a : Act) (w : World), wpOps P ops Q is a w → wpOpsIn Fence.wide n P ops Q is a w := by
  intro is
  induction is with
  | nil => exact fun a w h => h
  | cons i rest ih =>
    intro a w h
    simp only [wpOps, wpOpsIn] at h ⊢
    cases ho : ops[i]? with
    | none => simp only [ho] at h ⊢; exact ih a w h
    | some o =>
      simp only [ho] at h ⊢
      split
      · rename_i hw
        simp only [hw, if_true] at h
        have h := h.resolve_right fun hh => hQ hh.2
        refine ⟨fun _ _ => trivial, ?_⟩
        show o.uponIn Fence.wide n P a _ Q ((o.semAt none a.eval).run P w)
        rw [Oper.semAt_none]
        unfold Oper.wp at h
        generalize (execOp a.eval o).run P w = r at h ⊢
        cases r with
        | ok x w' =>
          cases x <;> simp only [Oper.upon, Oper.uponIn] at h ⊢
          case value v => exact ih _ _ h
          case skip => exact ih _ _ h
          case defer d => exact ih _ _ h
          case enter f args => exact ⟨fun hd => (by cases hd), callsIn_wide.2 (Calls.mono h fun e w'' he => by cases e <;> first | exact ih _ _ he | exact he)⟩
          case row row args => exact ⟨fun hd => (by cases hd), fun c cs _ => let ⟨v, w'', r, s⟩ := h c cs; ⟨v, w'', ih _ _ r, stepsIn_wide.2 s⟩⟩
        | halt x w' => cases x <;> simp only [Oper.upon, Oper.uponIn] at h ⊢ <;> exact h
      · rename_i hw
        simp only [hw] at h
        exact ⟨fun _ _ => trivial, ih _ _ h⟩
def noDefer (ops : Array Oper) : Bool := ops.all fun o => match o.op with | .defer _ => false | _ => true
theorem noDefer_at (h : noDefer ops = true) {i : Nat} {o : Oper} (ho : ops[i]? = some o) (c : Call) : o.op ≠ .defer c := by
  intro hc
  have hi := (Array.getElem?_eq_some_iff.1 ho).1
  have := (Array.all_eq_true.1 h) i hi
  rw [(Array.getElem?_eq_some_iff.1 ho).2, hc] at this
  cases this
theorem uponIn_round_eq {l : Nat} {o : Oper} {a : Act} {next : Act → World → Prop} (r : Result Next) : o.uponIn (Fence.wide.inRound l) n P a next Q r = o.uponIn Fence.wide n P a next Q r := by
  cases r with
  | ok x w => cases x <;> rfl
  | halt x w => cases x <;> rfl
/-- Within a round all but a defer is as everywhere. -/
theorem ops_round {l : Nat} (hnd : noDefer ops = true) : ∀ (is : List Nat) (a : Act) (w : World), wpOpsIn Fence.wide n P ops Q is a w → wpOpsIn (Fence.wide.inRound l) n P ops Q is a w := by
  intro is
  induction is with
  | nil => exact fun a w h => h
  | cons i rest ih =>
    intro a w h
    simp only [wpOpsIn] at h ⊢
    cases ho : ops[i]? with
    | none => simp only [ho] at h ⊢; exact ih a w h
    | some o =>
      simp only [ho] at h ⊢
      split
      · rename_i hw
        simp only [hw, if_true] at h
        have h2 := Oper.wpIn_mono ih h
        refine ⟨fun _ _ => trivial, ?_⟩
        rw [uponIn_round_eq]
        have h3 := h2.2
        have e1 : o.semAt Fence.wide.round a.eval = execOp a.eval o := Oper.semAt_none _ _
        have e2 : o.semAt (Fence.wide.inRound l).round a.eval = execOp a.eval o := Oper.semAt_some _ _ _ (noDefer_at hnd ho)
        rw [e1] at h3
        rw [e2]
        exact h3
      · rename_i hw
        simp only [hw] at h
        exact ⟨fun _ _ => trivial, ih _ _ h.2⟩
theorem region_round0 {l id : Nat} {a : Act} {w : World} (hm : P.follows .mixedOrders = true) (hnd : noDefer ops = true)
    (h : wpAnyIn Fence.wide n P .any ops Q ops.size (Array.replicate ops.size false) a w.drew) : (Code.region id ops true).wpIn (Fence.wide.inRound l) n P Q a w :=
  wpIn_region_draw fun t => by
    simp only [Region.schedule, hm, Bool.true_or, if_true]
    exact ops_round hnd _ _ _ (wpAnyIn_sound ops.size t _ a _ h)
theorem region_K_round {S : World → Prop} {l id : Nat} {a : Act} {w : World} (last : Nat) (hm : P.follows .mixedOrders = true) (hnd : noDefer ops = true) (hQ : ¬ LetsOut Q) (hS : S w.drew)
    (h : S w.drew → wpAnyK P .any ops Q S last ops.size (Array.replicate ops.size false) a w.drew) : (Code.region id ops true).wpIn (Fence.wide.inRound l) n P Q a w :=
  wpIn_region_draw fun t => by
    simp only [Region.schedule, hm, Bool.true_or, if_true]
    exact ops_round hnd _ _ _ (ops_in hQ _ _ _ (wpAny_sound ops.size t _ a _ (wpAny_of_K _ _ _ _ (h hS))))
theorem region_K_wide {S : World → Prop} {id : Nat} {a : Act} {w : World} (last : Nat) (hm : P.follows .mixedOrders = true) (hS : S w.drew)
    (h : S w.drew → wpAnyK P .any ops Q S last ops.size (Array.replicate ops.size false) a w.drew) : (Code.region id ops true).wpIn Fence.wide n P Q a w :=
  wpIn_wide.2 (wp_region_K last hm hS h)

/-! ### The statement, and a round -/
/-- The loop's record. -/
def recOf (fn : FuncId) (a : Act) (ps : Array Tmp) (assign body : Code) (D : Nat) (st : LoopState) (pe : Option Code) : Loop :=
  { state := st, pending := pe, fn, tmps := a.tmps, params := ps, assign, body, defers := D }
def markOf (D : Nat) : Deferred := { target := .collected D, args := #[] }
/-- What is asked behind the function that is ranged over: the record is ready, and on behind the statement; or a jump pends. -/
def behind (P : Program) (n : Nat) (Q : Exit → Act → World → Prop) (fn : FuncId) (a : Act) (ps : Array Tmp) (assign body : Code) (D : Nat) (W : World) : Prop :=
  (W.heap[D + 1]? = some (.loop (recOf fn a ps assign body D .ready none)) ∧ Q .normal { a with defers := markOf D :: a.defers } (W.putObj (D + 1) (.loop (recOf fn a ps assign body D .exhausted none)))) ∨
  (∃ c, W.heap[D + 1]? = some (.loop (recOf fn a ps assign body D .done (some c))) ∧ c.wpIn Fence.wide n P Q { a with defers := markOf D :: a.defers } (W.putObj (D + 1) (.loop (recOf fn a ps assign body D .exhausted (some c)))))
/-- The world in which the function that is ranged over is called. -/
def laidL (w : World) (fn : FuncId) (a : Act) (ps : Array Tmp) (assign body : Code) : World := (w.alloc (.deferred (some []))).alloc (.loop (recOf fn a ps assign body w.heap.size .ready none))
theorem range_in {g : Operand} {ps : Array Tmp} {assign body : Code} {a : Act} {w : World} {gf : Nat} {lb : Array Value} (hg : a.eval g = .func (.func gf) #[] lb) (eg : ∀ args w, (callFunc gf args).run P w = .ok (.enter gf args) w)
    (h : ∀ fn, Calls P gf (#[.func (.yield (w.heap.size + 1)) #[] #[]] ++ lb) (laidL w fn a ps assign body) fun e W => (∃ v, e = .returned v) ∧ behind P n Q fn a ps assign body w.heap.size W) :
    (Code.rangeFunc g ps assign body).wpIn Fence.wide n P Q a w := by
  refine wpIn_rangeFunc ?_
  intro fn _
  refine ⟨w.heap.size + 1, [{ target := .collected w.heap.size, args := #[] }], laidL w fn a ps assign body, { target := .fn (.func gf) lb, args := #[.func (.yield (w.heap.size + 1)) #[] #[]] }, laidL w fn a ps assign body, gf,
    #[.func (.yield (w.heap.size + 1)) #[] #[]] ++ lb, laidL w fn a ps assign body, ?_, ?_, ?_, ?_, (fun h => by cases h), ?_⟩
  · exact run_enterLoop_outer _ _ _ _ _
  · simp only [resolve, hg]
    simp [go_sem]
  · intro f' _; trivial
  · simp [invoke, go_sem, eg]
  · refine callsIn_wide.2 (Calls.mono (h fn) ?_)
    rintro e W ⟨⟨v, rfl⟩, (⟨hl, hq⟩ | ⟨c, hl, hq⟩)⟩
    · exact ⟨none, _, run_endLoop (P := P) hl (by simp [recOf]), hq⟩
    · exact ⟨some c, _, run_endLoop (P := P) hl (by simp [recOf]), hq⟩
/-- How a round's body may be left: off its end, or by a return. -/
def roundQ (l : Nat) (rec : LoopState → Option Code → Loop) (R : Ending → World → Prop) : Exit → Act → World → Prop
  | .normal, _, W => W.heap[l]? = some (.loop (rec .busy none)) ∧ R (.returned (.bool true)) (W.putObj l (.loop (rec .ready none)))
  | .ret, _, W => W.heap[l]? = some (.loop (rec .busy none)) ∧ R (.returned (.bool false)) (W.putObj l (.loop (rec .done (some .ret))))
  | _, _, _ => False
theorem roundQ_out {l : Nat} {rec : LoopState → Option Code → Loop} {R : Ending → World → Prop} : ¬ LetsOut (roundQ l rec R) := fun ⟨_, _, h⟩ => h
theorem yield_in {l : Nat} {fn : FuncId} {a : Act} {ps : Array Tmp} {assign body : Code} {D : Nat} {args : Array Value} {W : World} {R : Ending → World → Prop}
    (hl : W.heap[l]? = some (.loop (recOf fn a ps assign body D .ready none))) (hps : args.size = ps.size)
    (h : assign.wpIn (Fence.wide.inRound l) n P (Exit.then (fun a₁ W₁ => W₁.heap[l]? = some (.loop (recOf fn a ps assign body D .ready none)) ∧
        body.wpIn (Fence.wide.inRound l) n P (roundQ l (recOf fn a ps assign body D) R) a₁ (W₁.putObj l (.loop (recOf fn a ps assign body D .busy none)))) (fun _ _ _ => False))
      { tmps := (ps.zip args).foldl (fun t (p, v) => t.setIfInBounds p v) a.tmps, defers := [] } W) :
    YieldAt Fence.wide n P l args W R := by
  have hy := run_yield (P := P) (args := args) hl (by simpa [recOf] using hps)
  refine ⟨fn, _, assign, body, hy, roundIn_of_wpIn trivial ?_⟩
  refine wpIn_mono h ?_
  intro e a₁ W₁ he
  cases e with
  | normal =>
    obtain ⟨hl1, hb⟩ := he
    refine ⟨_, run_beginRound hl1 (by simp [recOf]), wpIn_mono hb ?_⟩
    intro e a₂ W₂ he
    cases e with
    | normal =>
      obtain ⟨hl2, hR⟩ := he
      exact ⟨_, _, run_endRound (P := P) none hl2, hR⟩
    | ret =>
      obtain ⟨hl2, hR⟩ := he
      exact ⟨_, _, run_endRound (P := P) (some .ret) hl2, hR⟩
    | exit id => exact he.elim
    | goto t => exact he.elim
    | panic c => exact he.elim
    | outgrown => exact he.elim
  | ret => exact he.elim
  | exit id => exact he.elim
  | goto t => exact he.elim
  | panic c => exact he.elim
  | outgrown => exact he.elim
/-- The same, the record a letter, and no jump but a return. -/
def behindR (Q : Exit → Act → World → Prop) (a : Act) (D : Nat) (rec : LoopState → Option Code → Loop) (W : World) : Prop :=
  (W.heap[D + 1]? = some (.loop (rec .ready none)) ∧ Q .normal { a with defers := markOf D :: a.defers } (W.putObj (D + 1) (.loop (rec .exhausted none)))) ∨
  (W.heap[D + 1]? = some (.loop (rec .done (some .ret))) ∧ Q .ret { a with defers := markOf D :: a.defers } (W.putObj (D + 1) (.loop (rec .exhausted (some .ret)))))
theorem range_rec {g : Operand} {ps : Array Tmp} {assign body : Code} {a : Act} {w : World} {gf : Nat} {lb : Array Value} (hg : a.eval g = .func (.func gf) #[] lb) (eg : ∀ args w, (callFunc gf args).run P w = .ok (.enter gf args) w)
    (h : ∀ fn rec, Hid (rec = recOf fn a ps assign body w.heap.size) → Calls P gf (#[.func (.yield (w.heap.size + 1)) #[] #[]] ++ lb) ((w.alloc (.deferred (some []))).alloc (.loop (rec .ready none))) fun e W => (∃ v, e = .returned v) ∧ behindR Q a w.heap.size rec W) :
    (Code.rangeFunc g ps assign body).wpIn Fence.wide n P Q a w :=
  range_in hg eg fun fn => (h fn _ (Lib.hid rfl)).mono fun e W hh => ⟨hh.1, by
    rcases hh.2 with ⟨h1, h2⟩ | ⟨h1, h2⟩
    · exact .inl ⟨h1, h2⟩
    · exact .inr ⟨.ret, h1, wpIn_ret h2⟩⟩
theorem yield_rec {l : Nat} {fn : FuncId} {a : Act} {ps : Array Tmp} {assign body : Code} {D : Nat} {args : Array Value} {W : World} {R : Ending → World → Prop} {rec : LoopState → Option Code → Loop}
    (hrec : Hid (rec = recOf fn a ps assign body D)) (hl : W.heap[l]? = some (.loop (rec .ready none))) (hps : args.size = ps.size)
    (h : assign.wpIn (Fence.wide.inRound l) n P (Exit.then (fun a₁ W₁ => W₁.heap[l]? = some (.loop (rec .ready none)) ∧ body.wpIn (Fence.wide.inRound l) n P (roundQ l rec R) a₁ (W₁.putObj l (.loop (rec .busy none)))) (fun _ _ _ => False))
      { tmps := (ps.zip args).foldl (fun t (p, v) => t.setIfInBounds p v) a.tmps, defers := [] } W) :
    YieldAt Fence.wide n P l args W R := by
  have e := hrec.out
  subst e
  exact yield_in hl hps h
/-- What ends normally, and in no other way. -/
def calm (Q : Exit → Act → World → Prop) : Exit → Act → World → Prop
  | .normal, a, w => Q .normal a w
  | _, _, _ => False
theorem calm_in {a : Act} {w : World} (h : Q .normal a w) : calm Q .normal a w := h
theorem calm_out : ∀ e a w, calm Q e a w → Q e a w
  | .normal, _, _, h => h
  | .ret, _, _, h => h.elim
  | .exit _, _, _, h => h.elim
  | .goto _, _, _, h => h.elim
  | .panic _, _, _, h => h.elim
  | .outgrown, _, _, h => h.elim
theorem region_H_round {S : World → Prop} {l id : Nat} {a : Act} {w : World} (hm : P.follows .mixedOrders = true) (hnd : noDefer ops = true) (hS : S w.drew)
    (h : S w.drew → wpAnyH P .any ops (calm Q) S ops.size (Array.replicate ops.size false) a w.drew) : (Code.region id ops true).wpIn (Fence.wide.inRound l) n P Q a w :=
  wpIn_mono (wpIn_region_draw fun t => by
    simp only [Region.schedule, hm, Bool.true_or, if_true]
    exact ops_round hnd _ _ _ (ops_in (fun ⟨_, _, h⟩ => h) _ _ _ (wpAny_sound ops.size t _ a _ (wpAny_of_held _ _ _ _ (h hS))))) calm_out
theorem region_H_wide {S : World → Prop} {id : Nat} {a : Act} {w : World} (hm : P.follows .mixedOrders = true) (hS : S w.drew)
    (h : S w.drew → wpAnyH P .any ops (calm Q) S ops.size (Array.replicate ops.size false) a w.drew) : (Code.region id ops true).wpIn Fence.wide n P Q a w :=
  wpIn_mono (wpIn_wide.2 (wp_region_held_drew hm hS h)) calm_out
theorem region_round {l id : Nat} {a : Act} {w : World} (hm : P.follows .mixedOrders = true) (hnd : noDefer ops = true)
    (h : wpAnyIn Fence.wide n P .any ops (calm Q) ops.size (Array.replicate ops.size false) a w.drew) : (Code.region id ops true).wpIn (Fence.wide.inRound l) n P Q a w :=
  wpIn_mono (region_round0 hm hnd h) calm_out
/-- A function's end behind one loop, and behind two. -/
theorem ends1 {fn : Func} {R : Ending → World → Prop} {tmps : Array Value} {D : Nat} {W : World} {v : Value} (hD : W.heap[D]? = some (.deferred (some [])))
    (hv : (results fn tmps).run P (W.putObj D (.deferred none)) = .ok v (W.putObj D (.deferred none))) (hR : R (.returned v) (W.putObj D (.deferred none))) :
    LeavesInM Fence.wide n P fn tmps R [markOf D] .returning W :=
  ⟨by simp, .inl ⟨_, _, rfl, run_takeDeferred hD, ⟨_, hv, hR⟩⟩⟩
theorem ends2 {fn : Func} {R : Ending → World → Prop} {tmps : Array Value} {D E : Nat} {W : World} {v : Value} (hD : W.heap[D]? = some (.deferred (some []))) (hE : W.heap[E]? = some (.deferred (some []))) (hne : E ≠ D)
    (hv : (results fn tmps).run P ((W.putObj D (.deferred none)).putObj E (.deferred none)) = .ok v ((W.putObj D (.deferred none)).putObj E (.deferred none))) (hR : R (.returned v) ((W.putObj D (.deferred none)).putObj E (.deferred none))) :
    LeavesInM Fence.wide n P fn tmps R [markOf D, markOf E] .returning W :=
  ⟨by simp, .inl ⟨_, _, rfl, run_takeDeferred hD, ends1 ((World.putObj_heap_other hne).trans hE) hv hR⟩⟩
/-- The depth is of no moment within the wide fence. -/
theorem YieldAt.depth {m m' l : Nat} {args : Array Value} {W : World} {R : Ending → World → Prop} (h : YieldAt Fence.wide m P l args W R) : YieldAt Fence.wide m' P l args W R := by
  obtain ⟨fn, tmps, assign, body, hy, hR⟩ := h
  exact ⟨fn, tmps, assign, body, hy, hR.1, fun c cs _ => hR.2 c cs (room_wide _)⟩
end
/-! ### What has turned -/
/-- From A on, Z being what is somebody else's: nothing has turned but what is Z's, what E allows, and new blocks; Z' is Z and new ones. -/
structure Gz (E Z : Nat → Prop) (A : World) (Z' : Nat → Prop) (B : World) : Prop where
  os : B.os = A.os
  tape : B.tape = A.tape
  output : B.output = A.output
  size : A.heap.size ≤ B.heap.size
  same : ∀ k, k < A.heap.size → ¬ Z k → ¬ E k → B.heap[k]? = A.heap[k]?
  ext : ∀ k, Z' k → Z k ∨ A.heap.size ≤ k
variable {E E' Z Z' Z'' : Nat → Prop} {A B C : World}
theorem Gz.refl (E Z : Nat → Prop) (A : World) : Gz E Z A Z A := ⟨rfl, rfl, rfl, Nat.le_refl _, fun _ _ _ _ => rfl, fun _ h => .inl h⟩
/-- What comes behind may turn more of what is new. -/
theorem Gz.tail (h : Gz E Z A Z' B) (k : Gz E' Z' B Z'' C) (hE : ∀ i, i < A.heap.size → E' i → E i) : Gz E Z A Z'' C :=
  ⟨k.os.trans h.os, k.tape.trans h.tape, k.output.trans h.output, Nat.le_trans h.size k.size,
    fun i hi hz he => (k.same i (Nat.lt_of_lt_of_le hi h.size) (fun hz' => by exact (h.ext i hz').elim hz (fun h' => absurd hi (by omega))) (fun he' => he (hE i hi he'))).trans (h.same i hi hz he),
    fun i hz => (k.ext i hz).elim (h.ext i) (fun h' => .inr (Nat.le_trans h.size h'))⟩
theorem Gz.trans (h : Gz E Z A Z' B) (k : Gz E Z' B Z'' C) : Gz E Z A Z'' C := h.tail k fun _ _ he => he
theorem Gz.more (h : Gz E Z A Z' B) (hE : ∀ i, E i → E' i) : Gz E' Z A Z' B := ⟨h.os, h.tape, h.output, h.size, fun i hi hz he => h.same i hi hz fun h' => he (hE i h'), h.ext⟩
theorem Gz.alloc (h : Gz E Z A Z' B) (o : Obj) : Gz E Z A Z' (B.alloc o) :=
  ⟨h.os, h.tape, h.output, by rw [World.size_alloc]; have := h.size; omega, fun i hi hz he => (Below.heap_alloc B o i (by have := h.size; omega)).trans (h.same i hi hz he), h.ext⟩
theorem Gz.drew (h : Gz E Z A Z' B) : Gz E Z A Z' B.drew := ⟨h.os, h.tape, h.output, h.size, h.same, h.ext⟩
theorem Gz.put (h : Gz E Z A Z' B) {l : Nat} (o : Obj) (hl : A.heap.size ≤ l ∨ E l) : Gz E Z A Z' (B.putObj l o) :=
  ⟨h.os, h.tape, h.output, by rw [World.putObj_size]; exact h.size, fun i hi hz he => (World.putObj_heap_other (fun e => by subst e; exact hl.elim (fun h' => by omega) he)).trans (h.same i hi hz he), h.ext⟩
theorem Gz.below (h : Gz E Z A Z' B) {k : World} {m : Nat} (hb : Below m B k) (hm : A.heap.size ≤ m) : Gz E Z A Z' k :=
  ⟨hb.os.trans h.os, hb.tape.trans h.tape, hb.output.trans h.output, Nat.le_trans h.size hb.size, fun i hi hz he => (hb.block i (by omega)).trans (h.same i hi hz he), h.ext⟩
theorem Gz.of_below {m : Nat} (hb : Below m A B) (hm : A.heap.size ≤ m) : Gz E Z A Z B := (Gz.refl E Z A).below hb hm
theorem Gz.toBelow {m : Nat} (h : Gz E Z A Z' B) (hz : ∀ k, k < m → k < A.heap.size ∧ ¬ Z k ∧ ¬ E k) : Below m A B :=
  ⟨h.os, h.tape, h.output, h.size, fun k hk => let ⟨a, b, c⟩ := hz k hk; h.same k a b c⟩
theorem Gz.heap (h : Gz E Z A Z' B) {k : Nat} {o : Obj} (hk : A.heap[k]? = some o) (hz : ¬ Z k) (he : ¬ E k) : B.heap[k]? = some o :=
  (h.same k (Array.getElem?_eq_some_iff.1 hk).1 hz he).trans hk
theorem Gz.lies (h : Gz E Z A Z' B) {k : Nat} {t : TypeId} {cs : Array Value} (hk : A.heap[k]? = some (.cells cs t)) (hz : ¬ Z k) (he : ¬ E k) : B.heap[k]? = some (.cells cs t) := h.heap hk hz he
theorem Gz.not (h : Gz E Z A Z' B) {k : Nat} (hk : k < A.heap.size) (hz : ¬ Z k) : ¬ Z' k := fun h' => (h.ext k h').elim hz (fun h'' => by omega)
end Lx
end Go.Proofs.Ytgnafcnokenogaa
namespace Go.Proofs.Ytgnafcnokenogaa
open Go Go.RowKit
namespace Lx
set_option maxRecDepth 100000
theorem ubinders_any (k n : Int) (s : ByteArray) (A : Option Addr) (m c : Nat) (w : World) :
    Calls Try.prog 26 #[.agg #[.int .i64 k, .int .i64 n, .string s, .slice A m c]] w fun e w' => e = .returned (.int .i64 (moreE k n)) ∧ Below w.heap.size w w' := by
  have hb : Below w.heap.size w (w.alloc (.cells #[.int .i64 k, .int .i64 n, .string s, .slice A m c] 24)) := (Below.refl _ w).alloc (Nat.le_refl _) _
  rcases (by omega : k = 2 ∨ k = 6 ∨ (k ≠ 2 ∧ k ≠ 6)) with rfl | rfl | ⟨h2, h6⟩
  · go_enter Try.func26, Try.ntmps26
    go_wp2_with fail
    go_ret
    exact ⟨rfl, hb⟩
  · go_enter Try.func26, Try.ntmps26
    go_wp2_with fail
    go_ret
    exact ⟨rfl, hb⟩
  · have e2 : (k == 2) = false := by simpa using h2
    have e6 : (k == 6) = false := by simpa using h6
    have HE : Hid (moreE k n = 0) := by
      refine Lib.hid ?_
      simp [moreE, h2, h6]
    clear h2 h6
    go_enter Try.func26, Try.ntmps26
    go_wp2_with fail
    go_ret
    exact ⟨ret_int HE.out.symm, hb⟩
/-- How many binders are told. -/
def toldN (k n : Int) : Nat := min (moreE k n).toNat 8
theorem told_any (k n : Int) (s : ByteArray) (A : Option Addr) (m c : Nat) (w : World) :
    Calls Try.prog 34 #[.agg #[.int .i64 k, .int .i64 n, .string s, .slice A m c]] w fun e w' => e = .returned (.int .i64 (toldN k n)) ∧ Below w.heap.size w w' := by
  have HT : Hid ((toldN k n : Int) = min (max (moreE k n) 0) 8) := Lib.hid (by rw [toldN]; omega)
  have hB := fun W => ubinders_any k n s A m c W
  have hb : Below w.heap.size w (w.alloc (.cells #[.int .i64 k, .int .i64 n, .string s, .slice A m c] 24)) := (Below.refl _ w).alloc (Nat.le_refl _) _
  generalize moreE k n = q at HT hB
  go_enter Try.func34, Try.ntmps34
  go_wp2_with (go_at_call 26; refine (hB _).mono ?_; rintro e w1 ⟨rfl, hb1⟩)
  go_ret
  exact ⟨ret_int HT.out.symm, hb.trans (hb1.mono (by simp))⟩
/-- Block bm is a map whose numbers are those of C; it has at most N entries. -/
def MapIs (w : World) (bm N : Nat) (C : Int → Int) : Prop :=
  ∃ (n : Nat) (D : DataW Unit), w.ownsMap Try.prog 3 (plainElem Try.prog 3) bm n D ∧ n ≤ N ∧ ∀ x : Int, D.atKey (.int .i64 x) (.lit (.int .i64 0)) = .lit (.int .i64 (C x))
theorem MapIs.heap {w w' : World} {bm N : Nat} {C : Int → Int} (h : MapIs w bm N C) (hb : w'.heap[bm]? = w.heap[bm]?) : MapIs w' bm N C := by
  obtain ⟨n, D, ⟨es, clock, hw, F, hs, hD⟩, hn, hC⟩ := h
  exact ⟨n, D, ⟨es, clock, hb.trans hw, F, hs, hD⟩, hn, hC⟩
theorem MapIs.lt {w : World} {bm N : Nat} {C : Int → Int} (h : MapIs w bm N C) : bm < w.heap.size := by obtain ⟨n, D, hw, _⟩ := h; exact hw.lt
theorem MapIs.below {w w' : World} {bm N B : Nat} {C : Int → Int} (h : MapIs w bm N C) (hb : Below B w w') (hB : bm < B) : MapIs w' bm N C := h.heap (hb.block bm hB)
theorem MapIs.made (w : World) : MapIs (w.alloc (.map #[] 0)) w.heap.size 0 fun _ => 0 :=
  ⟨0, .map [], World.ownsMap_made w _ _ _, Nat.le_refl _, fun _ => rfl⟩
theorem lit_wf {x : Int} (h0 : -9223372036854775808 ≤ x) (h1 : x ≤ 9223372036854775807) : (Lit.int .i64 x).wf = true := by simp [Lit.wf, IntKind.min, IntKind.max, IntKind.signed, IntKind.bits]; omega
theorem infoI : (Try.prog.info? 3).map (fun i => (i.zero, i.size, i.bytes)) = some (some (.int .i64 0), 1, 8) := by kernel_rfl
def rowC (C : Int → Int) (b : Int) (n : Nat) : List Int := (List.range n).map fun (i : Nat) => C (b + (i : Int))
theorem rowC_succ (C : Int → Int) (b : Int) (n : Nat) : rowC C b (n + 1) = rowC C b n ++ [C (b + (n : Int))] := by simp [rowC, List.range_succ]
theorem rowC_len (C : Int → Int) (b : Int) (n : Nat) : (rowC C b n).length = n := by simp [rowC]
def vI (l : List Int) : List Value := l.map (Value.int .i64)
theorem vI_snoc (l : List Int) (x : Int) : vI (l ++ [x]) = vI l ++ [.int .i64 x] := by simp [vI]
set_option maxHeartbeats 4000000 in
theorem places_any (bm N : Nat) (C : Int → Int) (b : Int) (n : Nat) (w : World) (hM : MapIs w bm N C) (hn : n ≤ 8) (hb0 : -4611686018427387904 ≤ b) (hb1 : b ≤ 4611686018427387904) :
    Calls Try.prog 33 #[.map (some bm), .int .i64 b, .int .i64 n] w fun e w' => ∃ v, e = .returned v ∧ w'.ownsRow w.heap.size 3 1 v n (vI (rowC C b n)) ∧ Below w.heap.size w w' := by
  have hbm := hM.lt
  obtain ⟨q, D, hown, _, hC⟩ := hM
  have HO : Hid (w.ownsMap Try.prog 3 (plainElem Try.prog 3) bm q D) := Lib.hid hown
  have HC : Hid (∀ x : Int, D.atKey (.int .i64 x) (.lit (.int .i64 0)) = .lit (.int .i64 (C x))) := Lib.hid hC
  obtain ⟨i0, hi0, hz0, hz1, hz2⟩ := info_parts infoI
  clear hC hown
  go_enter Try.func33, Try.ntmps33
  go_wp2_with fail
  go_loopw [7, 10] (fun v x wr => ∃ i : Nat, i ≤ n ∧ x = .int .i64 i ∧ wr.ownsRow w.heap.size 3 1 v i (vI (rowC C b i)) ∧ Below w.heap.size w wr) (fun _ x _ => n - (intOf x).toNat)
  case atStart => exact ⟨0, by omega, rfl, World.ownsRow_nil _ _ _ _, Below.refl _ _⟩
  case round =>
    obtain ⟨i, hi, rfl, hrow, hbw⟩ := hrel
    have hbs := hbw.size
    by_cases hlt : i < n
    · have ho2 : wr.ownsMap Try.prog 3 (plainElem Try.prog 3) bm q D := by
        obtain ⟨es, clock, hw, F, hs, hD⟩ := HO.out
        exact ⟨es, clock, (hbw.block bm hbm).trans hw, F, hs, hD⟩
      have hkw : (Lit.int .i64 (b + (i : Int))).wf = true := lit_wf (by omega) (by omega)
      go_wp2_with (first
        | (at_lookup; refine wpList_lookup_own_int _ rfl _ _ 47 rfl 3 3 .i64 (Maps.int_keyed Try.underlying3) Try.underlying47 Try.underlying3 (Try.zeroValue3 _) bm q D rfl ho2 _ _ rfl (Maps.keyOf_int_mk Try.underlying3 hkw) ?_; intro cc hat hwc; obtain rfl : cc = C (b + (i : Int)) := (by rw [HC.out] at hat; injection hat with hat; injection hat with _ hat; exact hat.symm))
        | (at_builtin; refine wpList_append_own _ rfl _ _ 35 rfl w.heap.size 3 i0 (.int .i64 0) 1 8 Try.underlying35 hi0 hz0 hz1 hz2 rfl (by decide) _ _ _ rfl (hrow.alloc _) ⟨wr.heap.size, 0, none⟩ 1 1 [.int .i64 (C (b + (i : Int)))] rfl rfl (cell_one_new _ _ _) (by simp [Value.oneCell']) (by simp only [maxLen]; omega) (by omega) (by simp; omega) ?_; intro v' w1 hown' hgrow _))
      have hb3 : Below w.heap.size w w1 := (hbw.alloc (by omega) _).grown hgrow (by simp; omega) (fun q hq => (hrow.lt q hq).1)
      go_roundw
      case rel => exact ⟨i + 1, by omega, by go_num, by rw [rowC_succ, vI_snoc]; exact hown', hb3⟩
      case measure => simp [intOf]; omega
    · go_wp2_with fail
      go_ret
      obtain rfl : i = n := by omega
      exact ⟨_, rfl, hrow, hbw⟩
theorem backT_any (A : Option Addr) (m c : Nat) (w : World) :
    Calls Try.prog 32 #[.slice A m c] w fun e w' => e = .returned (.func (.func 46) #[] #[.pointer (some ⟨w.heap.size, 0, none⟩)]) ∧ w' = w.alloc (.cells #[.slice A m c] 22) := by
  go_enter Try.func32, Try.ntmps32
  go_wp2_with fail
  go_ret
  exact ⟨rfl, rfl⟩
theorem backI_any (A : Option Addr) (m c : Nat) (w : World) :
    Calls Try.prog 35 #[.slice A m c] w fun e w' => e = .returned (.func (.func 47) #[] #[.pointer (some ⟨w.heap.size, 0, none⟩)]) ∧ w' = w.alloc (.cells #[.slice A m c] 35) := by
  go_enter Try.func35, Try.ntmps35
  go_wp2_with fail
  go_ret
  exact ⟨rfl, rfl⟩
theorem usesF_any (k n : Int) (s : ByteArray) (A : Option Addr) (m c : Nat) (w : World) :
    Calls Try.prog 21 #[.agg #[.int .i64 k, .int .i64 n, .string s, .slice A m c]] w fun e w' => e = .returned (.func (.func 30) #[] #[.pointer (some ⟨w.heap.size, 0, none⟩)]) ∧ w' = w.alloc (.cells #[.int .i64 k, .int .i64 n, .string s, .slice A m c] 24) := by
  go_enter Try.func21, Try.ntmps21
  go_wp2_with fail
  go_ret
  exact ⟨rfl, rfl⟩
end Lx
end Go.Proofs.Ytgnafcnokenogaa
namespace Go.Proofs.Ytgnafcnokenogaa
open Go Go.RowKit
attribute [local go_sem] Oper.semAt_some
namespace Lx
set_option maxRecDepth 100000
/-- The values av lie as terms from ⟨g, o⟩ on. -/
def LieT (W : World) (g o m : Nat) (av : Nat → Value) : Prop :=
  ∀ j, j < m → ∃ (k n : Int) (s : ByteArray) (A' : Option Addr) (len cap : Nat), av j = .agg #[.int .i64 k, .int .i64 n, .string s, .slice A' len cap] ∧
    W.cell? ⟨g, o + j * 4, none⟩ = some (.int .i64 k) ∧ W.cell? ⟨g, o + j * 4 + 1, none⟩ = some (.int .i64 n) ∧ W.cell? ⟨g, o + j * 4 + 2, none⟩ = some (.string s) ∧ W.cell? ⟨g, o + j * 4 + 3, none⟩ = some (.slice A' len cap)
set_option maxHeartbeats 2000000 in
theorem backT_in (l bx g o m c : Nat) (A : Option Addr) (av : Nat → Value) (J : Nat → World → Prop) (Jx : World → Prop) (hm : m ≤ 140737488351232) (hA : 0 < m → A = some ⟨g, o, none⟩)
    (hJ : ∀ i W, J i W → W.cell? ⟨bx, 0, none⟩ = some (.slice A m c) ∧ LieT W g o m av)
    (hY : ∀ i W, i < m → J (i + 1) W → YieldAt Fence.wide 0 Try.prog l #[.int .i64 i, av i] W fun e W' => (e = .returned (.bool true) ∧ J i W') ∨ (e = .returned (.bool false) ∧ Jx W'))
    (W : World) (h0 : J m W) :
    Calls Try.prog 46 #[.func (.yield l) #[] #[], .pointer (some ⟨bx, 0, none⟩)] W fun e W' => (∃ v, e = .returned v) ∧ (J 0 W' ∨ Jx W') := by
  have hc0 := (hJ m W h0).1
  refine (callsIn_wide (n := 2)).1 ?_
  refine callsIn_of_wp Try.func46 rfl trivial ?_ rfl
  simp only [Try.ntmps46, List.size_toArray, List.length_cons, List.length_nil, Nat.reduceAdd, Nat.reduceSub, Array.replicate_succ, Array.replicate_zero, List.push_toArray, List.append_toArray, List.nil_append, List.cons_append]
  gi_wp2
  gi_loopw [3] (fun p wr => ∃ i : Nat, i ≤ m ∧ p = .int .i64 ((i : Int) - 1) ∧ J i wr) (fun p _ => (intOf p + 1).toNat)
  case atStart => exact ⟨m, Nat.le_refl _, rfl, h0⟩
  case round =>
    obtain ⟨i, hi, rfl, hj⟩ := hrel
    cases i with
    | zero =>
      gi_wp2
      go_end0
      exact ⟨⟨_, rfl⟩, .inl hj⟩
    | succ i =>
      obtain ⟨hc, hL⟩ := hJ _ _ hj
      obtain ⟨k, n, s, A', len, cap, hv, d0, d1, d2, d3⟩ := hL i (by omega)
      obtain rfl := hA (by omega)
      obtain ⟨fn, tmps, assign, body, hy, hR⟩ := YieldAt.depth (m' := 1) (hY i wr (by omega) hj)
      rw [hv] at hy
      have e1 : ((i + 1 : Nat) : Int) - 1 = (i : Int) := by omega
      rw [e1]
      clear hJ hY h0 hc0
      gi_wp2
      refine hR.mono ?_
      rintro e W3 (⟨rfl, hJ3⟩ | ⟨rfl, hJx3⟩)
      · gi_wp2
        go_roundw
        case rel => exact ⟨i, by omega, by first | rfl | go_num, hJ3⟩
        case measure => simp [intOf]
      · gi_wp2
        refine bodyPost_ret (results_none rfl _ _ _) rfl ?_
        exact ⟨⟨_, rfl⟩, .inr hJx3⟩
/-- The numbers of f lie from ⟨g, o⟩ on. -/
def LieI (W : World) (g o m : Nat) (f : Nat → Int) : Prop := ∀ j, j < m → W.cell? ⟨g, o + j, none⟩ = some (.int .i64 (f j))
set_option maxHeartbeats 2000000 in
theorem backI_in (l bx g o m c : Nat) (A : Option Addr) (f : Nat → Int) (J : Nat → World → Prop) (Jx : World → Prop) (hm : m ≤ 140737488351232) (hA : 0 < m → A = some ⟨g, o, none⟩)
    (hJ : ∀ i W, J i W → W.cell? ⟨bx, 0, none⟩ = some (.slice A m c) ∧ LieI W g o m f)
    (hY : ∀ i W, i < m → J (i + 1) W → YieldAt Fence.wide 0 Try.prog l #[.int .i64 i, .int .i64 (f i)] W fun e W' => (e = .returned (.bool true) ∧ J i W') ∨ (e = .returned (.bool false) ∧ Jx W'))
    (W : World) (h0 : J m W) :
    Calls Try.prog 47 #[.func (.yield l) #[] #[], .pointer (some ⟨bx, 0, none⟩)] W fun e W' => (∃ v, e = .returned v) ∧ (J 0 W' ∨ Jx W') := by
  have hc0 := (hJ m W h0).1
  refine (callsIn_wide (n := 2)).1 ?_
  refine callsIn_of_wp Try.func47 rfl trivial ?_ rfl
  simp only [Try.ntmps47, List.size_toArray, List.length_cons, List.length_nil, Nat.reduceAdd, Nat.reduceSub, Array.replicate_succ, Array.replicate_zero, List.push_toArray, List.append_toArray, List.nil_append, List.cons_append]
  gi_wp2
  gi_loopw [3] (fun p wr => ∃ i : Nat, i ≤ m ∧ p = .int .i64 ((i : Int) - 1) ∧ J i wr) (fun p _ => (intOf p + 1).toNat)
  case atStart => exact ⟨m, Nat.le_refl _, rfl, h0⟩
  case round =>
    obtain ⟨i, hi, rfl, hj⟩ := hrel
    cases i with
    | zero =>
      gi_wp2
      go_end0
      exact ⟨⟨_, rfl⟩, .inl hj⟩
    | succ i =>
      obtain ⟨hc, hL⟩ := hJ _ _ hj
      have d0 := hL i (by omega)
      obtain rfl := hA (by omega)
      obtain ⟨fn, tmps, assign, body, hy, hR⟩ := YieldAt.depth (m' := 1) (hY i wr (by omega) hj)
      have e1 : ((i + 1 : Nat) : Int) - 1 = (i : Int) := by omega
      rw [e1]
      clear hJ hY h0 hc0
      gi_wp2
      refine hR.mono ?_
      rintro e W3 (⟨rfl, hJ3⟩ | ⟨rfl, hJx3⟩)
      · gi_wp2
        go_roundw
        case rel => exact ⟨i, by omega, by first | rfl | go_num, hJ3⟩
        case measure => simp [intOf]
      · gi_wp2
        refine bodyPost_ret (results_none rfl _ _ _) rfl ?_
        exact ⟨⟨_, rfl⟩, .inr hJx3⟩
end Lx
end Go.Proofs.Ytgnafcnokenogaa
namespace Go.Proofs.Ytgnafcnokenogaa
open Go Go.RowKit
namespace Lx
set_option maxRecDepth 100000
/-- A node's own binders' uses. -/
def ownE (k n : Int) (l : List Te) : List Int :=
  match l with
  | [] => []
  | t :: _ => (List.range (toldN k n)).map fun (i : Nat) => (usesE t (moreE k n - 1 - (i : Int)) : Int)
mutual
/-- The uses of each binder, in order. -/
def ofE : Te → List Int
  | .node k n _ l => ownE k n l ++ ofEL l
def ofEL : List Te → List Int
  | [] => []
  | t :: r => ofE t ++ ofEL r
end
theorem ofEL_drop (l : List Te) (i : Nat) (h : i < l.length) : ofEL (l.drop i) = ofE (l[i]'h) ++ ofEL (l.drop (i + 1)) := by rw [List.drop_eq_getElem_cons h, ofEL]
theorem usesEL_drop (l : List Te) (i : Nat) (h : i < l.length) (j : Int) : usesEL (l.drop i) j = usesE (l[i]'h) j + usesEL (l.drop (i + 1)) j := by rw [List.drop_eq_getElem_cons h, usesEL]
theorem sizeEL_drop (l : List Te) (i : Nat) (h : i < l.length) : sizeEL (l.drop i) = sizeE (l[i]'h) + sizeEL (l.drop (i + 1)) := by rw [List.drop_eq_getElem_cons h, sizeEL]
theorem ofEL_split (l : List Te) (i : Nat) : ofEL l = ofEL (l.take i) ++ ofEL (l.drop i) := by
  induction l generalizing i with
  | nil => simp [ofEL]
  | cons t r ih =>
    cases i with
    | zero => simp [ofEL]
    | succ i => simp only [List.take_succ_cons, List.drop_succ_cons, ofEL, ih i, List.append_assoc]
theorem of_rev (k n : Int) (s : ByteArray) (t0 : Te) (r : List Te) : (ofE (.node k n s (t0 :: r))).reverse = (ofEL r).reverse ++ ((ofE t0).reverse ++ (ownE k n (t0 :: r)).reverse) := by
  rw [ofE, ofEL]
  simp [List.append_assoc]
theorem drop_rev (xs : List Int) (i : Nat) : (xs.drop i).reverse <+: xs.reverse := ⟨(xs.take i).reverse, by rw [← List.reverse_append, List.take_append_drop]⟩
theorem ofEL_rev (r : List Te) (i : Nat) : (ofEL (r.drop i)).reverse <+: (ofEL r).reverse := ⟨(ofEL (r.take i)).reverse, by rw [← List.reverse_append, ← ofEL_split]⟩
theorem app_pref {a b c full : List Int} (h : b <+: c) (hf : a ++ c <+: full) : a ++ b <+: full := (List.prefix_append_right_inj a |>.2 h).trans hf
theorem sizeEL_drop_le (l : List Te) : ∀ i, sizeEL (l.drop i) ≤ sizeEL l := by
  induction l with
  | nil => simp
  | cons t r ih =>
    intro i
    cases i with
    | zero => simp
    | succ i => rw [List.drop_succ_cons, sizeEL]; have := ih i; omega
/-- The numbers of a map behind a term that was gone through within b binders. -/
def keyC (C : Int → Int) (t : Te) (b : Int) : Int → Int := fun v => C v + (usesE t (b - 1 - v) : Int)
def keyCL (C : Int → Int) (l : List Te) (b : Int) : Int → Int := fun v => C v + (usesEL l (b - 1 - v) : Int)
theorem keyCL_nil (C : Int → Int) (b : Int) : keyCL C [] b = C := by funext v; simp [keyCL, usesEL]
theorem keyCL_drop (C : Int → Int) (l : List Te) (b : Int) (i : Nat) (h : i < l.length) : keyC (keyCL C (l.drop (i + 1)) b) (l[i]'h) b = keyCL C (l.drop i) b := by
  funext v
  simp only [keyC, keyCL, usesEL_drop l i h]
  omega
theorem keyC_cons (C : Int → Int) (t : Te) (r : List Te) (b : Int) : keyC (keyCL C r b) t b = keyCL C (t :: r) b := by
  funext v
  simp only [keyC, keyCL, usesEL]
  omega
theorem keyC_node (C : Int → Int) (k n : Int) (s : ByteArray) (l : List Te) (b : Int) (hk : k ≠ 1) : keyC C (.node k n s l) b = keyCL C l (b + moreE k n) := by
  funext v
  simp only [keyC, keyCL, usesE, if_neg hk]
  rw [show b - 1 - v + moreE k n = b + moreE k n - 1 - v from by omega]
theorem keyC_var (C : Int → Int) (n : Int) (s : ByteArray) (b : Int) : keyC C (.node 1 n s []) b = fun v => if v = b - 1 - n then C v + 1 else C v := by
  funext v
  simp only [keyC, usesE, if_pos]
  split
  · rename_i h; rw [if_pos (by omega)]; omega
  · rename_i h; rw [if_neg (by omega)]; omega
theorem keyC_bound {C : Int → Int} {N : Nat} (hC : ∀ v, 0 ≤ C v ∧ C v ≤ N) (t : Te) (b : Int) : ∀ v, 0 ≤ keyC C t b v ∧ keyC C t b v ≤ (N + sizeE t : Nat) := by
  intro v
  have h1 := hC v
  have h2 := usesE_le t (b - 1 - v)
  simp only [keyC]
  omega
theorem keyCL_bound {C : Int → Int} {N : Nat} (hC : ∀ v, 0 ≤ C v ∧ C v ≤ N) (l : List Te) (b : Int) : ∀ v, 0 ≤ keyCL C l b v ∧ keyCL C l b v ≤ (N + sizeEL l : Nat) := by
  intro v
  have h1 := hC v
  have h2 := usesEL_le l (b - 1 - v)
  simp only [keyCL]
  omega
/-- What a node yields of its own, of the numbers behind its first part less those ahead of it. -/
theorem own_is (C : Int → Int) (k n : Int) (t : Te) (r : List Te) (b : Int) (i : Nat) (hi : i < toldN k n) :
    (ownE k n (t :: r))[i]? = some (keyC C t (b + moreE k n) (b + (i : Int)) - C (b + (i : Int))) := by
  simp only [ownE, keyC]
  rw [List.getElem?_map, List.getElem?_range hi]
  simp only [Option.map_some]
  rw [show b + moreE k n - 1 - (b + (i : Int)) = moreE k n - 1 - (i : Int) from by omega]
  congr 1
  omega
theorem ownE_len (k n : Int) (t : Te) (r : List Te) : (ownE k n (t :: r)).length = toldN k n := by simp [ownE]
mutual
theorem ofE_len : ∀ t : Te, (ofE t).length ≤ 8 * sizeE t
  | .node k n s l => by
    have := ofEL_len l
    rw [ofE, sizeE, List.length_append]
    have : (ownE k n l).length ≤ 8 := by
      cases l with
      | nil => simp [ownE]
      | cons t r => rw [ownE_len, toldN]; omega
    omega
theorem ofEL_len : ∀ l : List Te, (ofEL l).length ≤ 8 * sizeEL l
  | [] => by simp [ofEL]
  | t :: r => by rw [ofEL, sizeEL, List.length_append]; have := ofE_len t; have := ofEL_len r; omega
end
/-- Who asks for numbers, one by one, of which J holds between two rounds, and Jx once no more are wanted: it stands on Z's blocks alone. -/
structure Asks (l : Nat) (full : List Int) (J Jx : List Int → (Nat → Prop) → World → Prop) : Prop where
  frame : ∀ pre Z A B, J pre Z A → A.heap.size ≤ B.heap.size → (∀ k, Z k → B.heap[k]? = A.heap[k]?) → J pre Z B
  frameX : ∀ pre Z A B, Jx pre Z A → A.heap.size ≤ B.heap.size → (∀ k, Z k → B.heap[k]? = A.heap[k]?) → Jx pre Z B
  lt : ∀ pre Z A, J pre Z A → ∀ k, Z k → k < A.heap.size
  ltX : ∀ pre Z A, Jx pre Z A → ∀ k, Z k → k < A.heap.size
  round : ∀ pre x Z A, J pre Z A → pre ++ [x] <+: full → YieldAt Fence.wide 0 Try.prog l #[.int .i64 x] A fun e B => ∃ (r : Bool) (Z' : Nat → Prop), e = .returned (.bool r) ∧ Gz (fun _ => False) Z A Z' B ∧
    (r = true → J (pre ++ [x]) Z' B) ∧ (r = false → Jx (pre ++ [x]) Z' B)
/-- One's own steps leave who asks as he is. -/
theorem Asks.own {l : Nat} {full : List Int} {J Jx : List Int → (Nat → Prop) → World → Prop} (h : Asks l full J Jx) {pre : List Int} {Z E : Nat → Prop} {A B : World} (hJ : J pre Z A) (hG : Gz E (fun _ => False) A (fun _ => False) B) (hE : ∀ k, Z k → ¬ E k) : J pre Z B :=
  h.frame pre Z A B hJ hG.size fun k hk => hG.same k (h.lt pre Z A hJ k hk) (fun h => h) (hE k hk)
theorem Asks.ownX {l : Nat} {full : List Int} {J Jx : List Int → (Nat → Prop) → World → Prop} (h : Asks l full J Jx) {pre : List Int} {Z E : Nat → Prop} {A B : World} (hJ : Jx pre Z A) (hG : Gz E (fun _ => False) A (fun _ => False) B) (hE : ∀ k, Z k → ¬ E k) : Jx pre Z B :=
  h.frameX pre Z A B hJ hG.size fun k hk => hG.same k (h.ltX pre Z A hJ k hk) (fun h => h) (hE k hk)
/-- One's own steps, whoever asks. -/
theorem Gz.any {E Z : Nat → Prop} {A B : World} (h : Gz E (fun _ => False) A (fun _ => False) B) : Gz E Z A Z B :=
  ⟨h.os, h.tape, h.output, h.size, fun k hk _ he => h.same k hk (fun h => h) he, fun _ hz => .inl hz⟩
abbrev No : Nat → Prop := fun _ => False
/-- The captured boxes of the closure that goes through. -/
structure Held (l M T Yb bm : Nat) (W : World) : Prop where
  m : W.cell? ⟨M, 0, none⟩ = some (.map (some bm))
  t : W.cell? ⟨T, 0, none⟩ = some (.func (.func 31) #[] #[.pointer (some ⟨M, 0, none⟩), .pointer (some ⟨T, 0, none⟩), .pointer (some ⟨Yb, 0, none⟩)])
  y : W.cell? ⟨Yb, 0, none⟩ = some (.func (.yield l) #[] #[])
theorem Gz.cell {E Z Z' : Nat → Prop} {A B : World} (h : Gz E Z A Z' B) {k i : Nat} {v : Value} (hc : A.cell? ⟨k, i, none⟩ = some v) (hz : ¬ Z k) (he : ¬ E k) : B.cell? ⟨k, i, none⟩ = some v :=
  (World.cell?_of_block (h.same k (World.block_lt_of_cell? A ⟨k, i, none⟩ hc) hz he)).trans hc
theorem Held.gz {l M T Yb bm : Nat} {E Z Z' : Nat → Prop} {A B : World} (h : Held l M T Yb bm A) (hG : Gz E Z A Z' B) (hz : ∀ k, k = M ∨ k = T ∨ k = Yb → ¬ Z k ∧ ¬ E k) : Held l M T Yb bm B :=
  ⟨hG.cell h.m (hz M (by simp)).1 (hz M (by simp)).2, hG.cell h.t (hz T (by simp)).1 (hz T (by simp)).2, hG.cell h.y (hz Yb (by simp)).1 (hz Yb (by simp)).2⟩
theorem EIn.gz {X E Z Z' : Nat → Prop} {A B : World} (t : Te) {a : Option Addr} (h : EIn A X t a) (hG : Gz E Z A Z' B) (hX : ∀ g, X g → ¬ Z g ∧ ¬ E g) : EIn B X t a :=
  EIn.keep t h fun g _j hg hlt => ⟨World.cell?_of_block (hG.same g hlt (hX g hg).1 (hX g hg).2), hg⟩
theorem ELIn.gz {X E Z Z' : Nat → Prop} {A B : World} (t : List Te) {a : Option Addr} {i : Nat} (h : ELIn A X t a i) (hG : Gz E Z A Z' B) (hX : ∀ g, X g → ¬ Z g ∧ ¬ E g) : ELIn B X t a i :=
  ELIn.keep t h fun g _j hg hlt => ⟨World.cell?_of_block (hG.same g hlt (hX g hg).1 (hX g hg).2), hg⟩
theorem MapIs.mono {W : World} {bm N N' : Nat} {C : Int → Int} (h : MapIs W bm N C) (hN : N ≤ N') : MapIs W bm N' C := by
  obtain ⟨n, D, hw, hn, hC⟩ := h
  exact ⟨n, D, hw, by omega, hC⟩
theorem drop_snoc_rev (xs : List Int) (i : Nat) (x : Int) (h : xs[i]? = some x) : (xs.drop (i + 1)).reverse ++ [x] = (xs.drop i).reverse := by
  obtain ⟨hi, rfl⟩ := List.getElem?_eq_some_iff.1 h
  rw [List.drop_eq_getElem_cons hi, List.reverse_cons]
/-- What the closure that goes through answers of a term within b binders. -/
def ThrPost (_l _M _T _Yb bm : Nat) (full : List Int) (J Jx : List Int → (Nat → Prop) → World → Prop) (t : Te) (b : Int) (N : Nat) (C : Int → Int) (pre : List Int) (Z : Nat → Prop) (W : World) (e : Ending) (W' : World) : Prop :=
  ∃ (r : Bool) (Z' : Nat → Prop), e = .returned (.bool r) ∧ Gz (· = bm) Z W Z' W' ∧
    (r = true → MapIs W' bm (N + sizeE t) (keyC C t b) ∧ J (pre ++ (ofE t).reverse) Z' W') ∧ (r = false → ∃ q, pre ++ q <+: full ∧ Jx (pre ++ q) Z' W')
/-- What it asks. -/
structure ThrPre (l M T Yb bm : Nat) (full : List Int) (J : List Int → (Nat → Prop) → World → Prop) (X : Nat → Prop) (t : Te) (A : Option Addr) (d : Nat) (b : Int) (N : Nat) (C : Int → Int) (pre : List Int) (Z : Nat → Prop) (W : World) : Prop where
  dep : depthE t ≤ d
  dep4 : d ≤ 4000
  siz : N + sizeE t ≤ 1000000000000
  tame : tameE 1099511627776 1099511627776 t
  b0 : -(1099511627776 * (8000 - (d : Int))) ≤ b
  b1 : b ≤ 1099511627776 * (8000 - (d : Int))
  lies : EIn W X t A
  mapi : MapIs W bm N C
  cbd : ∀ v, 0 ≤ C v ∧ C v ≤ N
  held : Held l M T Yb bm W
  asks : J pre Z W
  offX : ∀ g, X g → g < W.heap.size ∧ ¬ Z g ∧ g ≠ bm
  offM : ∀ k, k = M ∨ k = T ∨ k = Yb → ¬ Z k ∧ k ≠ bm
  offB : ¬ Z bm
  pref : pre ++ (ofE t).reverse <+: full
theorem ownsRow_base {W : World} {b b' e sz n : Nat} {v : Value} {xs : List Value} (h : W.ownsRow b e sz v n xs) (hb : b' ≤ b) : W.ownsRow b' e sz v n xs := by
  obtain ⟨hl, h | ⟨g, cap, cur, h1, h2, h3⟩⟩ := h
  · exact ⟨hl, .inl h⟩
  · exact ⟨hl, .inr ⟨g, cap, cur, h1, Nat.le_trans hb h2, h3⟩⟩
theorem ownsRow_slice {W : World} {b e sz n : Nat} {v : Value} {xs : List Value} (h : W.ownsRow b e sz v n xs) : ∃ A c, v = .slice A n c ∧ (0 < n → ∃ g, A = some ⟨g, 0, none⟩) := by
  obtain ⟨_, ⟨h1, h2⟩ | ⟨g, cap, cur, h1, _⟩⟩ := h
  · subst h2; exact ⟨_, _, h1, fun h => absurd h (by omega)⟩
  · exact ⟨_, _, h1, fun _ => ⟨g, rfl⟩⟩
theorem ownsRow_cells {W : World} {b e n : Nat} {A : Option Addr} {c : Nat} {C : Int → Int} {x : Int} (h : W.ownsRow b e 1 (.slice A n c) n (vI (rowC C x n))) (hn : 0 < n) :
    ∃ g, A = some ⟨g, 0, none⟩ ∧ b ≤ g ∧ g < W.heap.size ∧ ∀ j : Nat, j < n → W.cell? ⟨g, j, none⟩ = some (.int .i64 (C (x + (j : Int)))) := by
  obtain ⟨hl, ⟨_, h2⟩ | ⟨g, cap, cur, h1, h2, h3, h4, h5, h6, h7⟩⟩ := h
  · omega
  · injection h1 with hA _ hc
    refine ⟨g, hA, h2, (Array.getElem?_eq_some_iff.1 h3).1, fun j hj => ?_⟩
    have hj2 : j < n * 1 := by omega
    have e1 : (cur.toList.take (n * 1))[j]? = cur.toList[j]? := List.getElem?_take_of_lt hj2
    rw [h7] at e1
    have e2 : (vI (rowC C x n))[j]? = some (.int .i64 (C (x + (j : Int)))) := by
      simp only [vI, rowC, List.map_map]
      rw [List.getElem?_map, List.getElem?_range hj]
      rfl
    rw [e2] at e1
    rw [cell_of_row W g j cur e (0, 0) h3]
    simpa using e1.symm
/-- A row's slice is stored in a box of one's own. -/
theorem own_put {A W : World} {gb n : Nat} {e t : TypeId} {v : Value} {xs : List Value} {z : Value} (h : W.ownsRow A.heap.size e 1 v n xs) (hn : ∀ q, v.ownBlock = some q → q ≠ gb) (L : Lies W gb t #[z]) (hb : Below A.heap.size A W) (hg : A.heap.size ≤ gb) :
    Lies (W.setCell ⟨gb, 0, none⟩ v) gb t #[v] ∧ (W.setCell ⟨gb, 0, none⟩ v).ownsRow A.heap.size e 1 v n xs ∧ Below A.heap.size A (W.setCell ⟨gb, 0, none⟩ v) := by
  refine ⟨by have := L.put 0 v; simpa using this, ?_, hb.setCell (p := ⟨gb, 0, none⟩) hg _⟩
  obtain ⟨hl, h | ⟨g, cap, cur, h1, h2, h3, h4⟩⟩ := h
  · exact ⟨hl, .inl h⟩
  · refine ⟨hl, .inr ⟨g, cap, cur, h1, h2, (Below.heap_setCell W ⟨gb, 0, none⟩ v g ?_).trans h3, h4⟩⟩
    exact hn g (by rw [h1]; rfl)
end Lx
end Go.Proofs.Ytgnafcnokenogaa
namespace Go.Proofs.Ytgnafcnokenogaa
open Go Go.RowKit
namespace Lx
set_option maxRecDepth 100000
theorem MapIs.put {w' : World} {bm n N : Nat} {D : DataW Unit} {C : Int → Int} {x y : Int} (h : w'.ownsMap Try.prog 3 (plainElem Try.prog 3) bm (n + 1) (D.put (.int .i64 x) (.lit (.int .i64 y)))) (hn : n ≤ N) (hD : Maps.IsMap D)
    (hC : ∀ x : Int, D.atKey (.int .i64 x) (.lit (.int .i64 0)) = .lit (.int .i64 (C x))) : MapIs w' bm (N + 1) (fun v => if v = x then y else C v) := by
  refine ⟨n + 1, _, h, by omega, fun v => ?_⟩
  by_cases hv : v = x
  · subst hv
    simp only [if_pos]
    exact Maps.atKey_put_same hD (k := .int .i64 v) (by unfold WideAt.IsKeyLit; trivial) _ _
  · simp only [if_neg hv]
    rw [Maps.atKey_put_other (fun e => hv (by injection e))]
    exact hC v
theorem Gz.grown {E Z Z' : Nat → Prop} {A B C : World} {row : Option Nat} (h : Gz E Z A Z' B) (hg : B.grownBy C row) (hr : ∀ k, row = some k → A.heap.size ≤ k ∨ E k) : Gz E Z A Z' C :=
  ⟨hg.os.trans h.os, hg.tape.trans h.tape, hg.output.trans h.output, Nat.le_trans h.size hg.size,
    fun k hk hz he => (hg.block k (by have := h.size; omega) (fun e => (hr k e.symm).elim (fun h' => by omega) he)).trans (h.same k hk hz he), h.ext⟩
theorem Gz.setCell {E Z Z' : Nat → Prop} {A B : World} (h : Gz E Z A Z' B) (p : Addr) (v : Value) (hp : A.heap.size ≤ p.block ∨ E p.block) : Gz E Z A Z' (B.setCell p v) :=
  ⟨h.os, h.tape, h.output, by rw [show (B.setCell p v).heap.size = B.heap.size from by simp [World.setCell]]; exact h.size,
    fun k hk hz he => (Below.heap_setCell B p v k (fun e => by subst e; exact hp.elim (fun h' => by omega) he)).trans (h.same k hk hz he), h.ext⟩
theorem load_bool {W : World} {g : Nat} {r : Bool} (hc : W.cell? ⟨g, 0, none⟩ = some (.bool r)) : (loadVar 4 ⟨g, 0, none⟩).run Try.prog W = .ok (.bool r) W := by
  have := Try.underlying4
  go_simp
theorem results_bool {fn : Func} {p : Tmp} (h : fn.results = #[.cell p 4]) (tmps : Array Value) {W : World} {g : Nat} {r : Bool} (hp : tmps.getD p undef = .pointer (some ⟨g, 0, none⟩)) (hc : W.cell? ⟨g, 0, none⟩ = some (.bool r)) :
    (results fn tmps).run Try.prog W = .ok (.bool r) W := by
  have hp' : tmps[p]?.getD undef = .pointer (some ⟨g, 0, none⟩) := by simpa using hp
  simp [results, h, hp', asAddr, load_bool hc]
section
variable {l M T Yb bm : Nat} {full : List Int} {J Jx : List Int → (Nat → Prop) → World → Prop} {X : Nat → Prop}
abbrev thrArgs (M T Yb : Nat) (v : Value) (b : Int) : Array Value := #[v, .int .i64 b, .pointer (some ⟨M, 0, none⟩), .pointer (some ⟨T, 0, none⟩), .pointer (some ⟨Yb, 0, none⟩)]
set_option maxHeartbeats 4000000 in
theorem thr_var (hA : Asks l full J Jx) (d : Nat) (n : Int) (s : ByteArray) (A : Option Addr) (c : Nat) (b : Int) (N : Nat) (C : Int → Int) (pre : List Int) (Z : Nat → Prop) (W : World)
    (h : ThrPre l M T Yb bm full J X (.node 1 n s []) A d b N C pre Z W) :
    Calls Try.prog 31 (thrArgs M T Yb (ev (.node 1 n s []) A c) b) W (ThrPost l M T Yb bm full J Jx (.node 1 n s []) b N C pre Z W) := by
  show Calls Try.prog 31 #[.agg #[.int .i64 1, .int .i64 n, .string s, .slice A 0 (capF 0 c)], .int .i64 b, .pointer (some ⟨M, 0, none⟩), .pointer (some ⟨T, 0, none⟩), .pointer (some ⟨Yb, 0, none⟩)] W _
  generalize capF 0 c = c
  obtain ⟨hdep, hd4, hsz, htame, hb0, hb1, _, hmap, hcb, hheld, hask, hoX, hoM, hoB, hpre⟩ := h
  rw [tameE] at htame
  obtain ⟨hn0, hn1, _⟩ := htame.1 rfl
  have hbm := hmap.lt
  obtain ⟨q, D, hown, hqN, hC⟩ := hmap
  have hD : Maps.IsMap D := by obtain ⟨es, clock, _, _, _, hD⟩ := hown; exact ⟨_, hD⟩
  have hM := hheld.m
  have hMs : M < W.heap.size := World.block_lt_of_cell? W _ hM
  obtain ⟨w3, hw3⟩ : ∃ w3, w3 = ((W.alloc (.cells #[.int .i64 1, .int .i64 n, .string s, .slice A 0 c] 24)).alloc (.cells #[.int .i64 b] 3)).alloc (.cells #[.bool false] 4) := ⟨_, rfl⟩
  have hG : Gz No No W No w3 := by rw [hw3]; exact (((Gz.refl _ _ _).alloc _).alloc _).alloc _
  have hs3 : w3.heap.size = W.heap.size + 3 := by rw [hw3]; simp
  have L0 : Lies w3 W.heap.size 24 #[.int .i64 1, .int .i64 n, .string s, .slice A 0 c] := by rw [hw3]; exact ((Lies.new _ _ _).old _).old _
  have L1 : Lies w3 (W.heap.size + 1) 3 #[.int .i64 b] := by rw [hw3]; exact (lies_next _ _ _ _ (by simp)).old _
  have L2 : Lies w3 (W.heap.size + 2) 4 #[.bool false] := by rw [hw3]; exact lies_next _ _ _ _ (by simp)
  have hown3 : w3.ownsMap Try.prog 3 (plainElem Try.prog 3) bm q D := by
    obtain ⟨es, clock, hw, F, hs, hD⟩ := hown
    exact ⟨es, clock, hG.heap hw (fun h => h) (fun h => h), F, hs, hD⟩
  have hM3 : w3.cell? ⟨M, 0, none⟩ = some (.map (some bm)) := hG.cell hM (fun h => h) (fun h => h)
  have hkw : (Lit.int .i64 (b - 1 - n)).wf = true := lit_wf (by omega) (by omega)
  have hcv := hcb (b - 1 - n)
  have HC := Lib.hid hC
  have hPost : ∀ wx, wx.ownsMap Try.prog 3 (plainElem Try.prog 3) bm (q + 1) (D.put (.int .i64 (b - 1 - n)) (.lit (.int .i64 (C (b - 1 - n) + 1)))) → w3.grownBy wx (some bm) →
      ThrPost l M T Yb bm full J Jx (.node 1 n s []) b N C pre Z W (.returned (.bool true)) (wx.setCell ⟨W.heap.size + 2, 0, none⟩ (.bool true)) := by
    intro wx hox hgx
    have hG4 : Gz (· = bm) No W No (wx.setCell ⟨W.heap.size + 2, 0, none⟩ (.bool true)) := ((hG.more (fun _ h => h.elim)).grown hgx (fun k e => by injection e with e; exact .inr e.symm)).setCell _ _ (.inl (by show _ ≤ W.heap.size + 2; omega))
    refine ⟨true, Z, rfl, hG4.any, fun _ => ⟨?_, ?_⟩, fun h => by cases h⟩
    · have hp := MapIs.put hox hqN hD hC
      rw [keyC_var]
      have hss : sizeE (.node 1 n s []) = 1 := by simp [sizeE, sizeEL]
      rw [hss]
      have hcc : (fun v => if v = b - 1 - n then C (b - 1 - n) + 1 else C v) = (fun v => if v = b - 1 - n then C v + 1 else C v) := by
        funext v; split
        · rename_i h; rw [h]
        · rfl
      rw [← hcc]
      exact hp.heap (Below.heap_setCell _ _ _ _ (by show bm ≠ W.heap.size + 2; omega))
    · have : (ofE (.node 1 n s [])).reverse = [] := by simp [ofE, ofEL, ownE]
      rw [this, List.append_nil]
      exact hA.own hask hG4 fun k hz e => hoB (e ▸ hz)
  obtain ⟨R, hR⟩ : ∃ R, R = ThrPost l M T Yb bm full J Jx (.node 1 n s []) b N C pre Z W := ⟨_, rfl⟩
  rw [← hR] at hPost ⊢
  have HP := Lib.hid hPost
  have c0 := L0.four
  have b0 := L1.cell 0
  simp at b0
  have HG : Hid (∀ wx, w3.grownBy wx (some bm) → wx.cell? ⟨W.heap.size, 3, none⟩ = some (.slice A 0 c) ∧ wx.cell? ⟨W.heap.size + 1 + 1, 0, none⟩ = some (.bool false) ∧ wx.frozen? ⟨W.heap.size + 1 + 1, 0, none⟩ = false) := Lib.hid fun wx hg => by
    have hne : some W.heap.size ≠ some bm := fun e => by injection e with e; omega
    have hne2 : some (W.heap.size + 1 + 1) ≠ some bm := fun e => by injection e with e; omega
    exact ⟨(World.cell?_of_block (hg.block W.heap.size (by omega) hne)).trans (L0.cell 3), (World.cell?_of_block (hg.block (W.heap.size + 1 + 1) (by omega) hne2)).trans (L2.cell 0), (World.frozen?_of_block (hg.block (W.heap.size + 1 + 1) (by omega) hne2)).trans (L2.frozen 0)⟩
  clear hPost hR hC hask hheld hM hoX hoM hoB hpre hG htame hcb hdep hd4 L0 L1 hown hA
  go_enter Try.func31, Try.ntmps31
  go_upto_region 1 with fail
  rw [← hw3]
  clear hw3
  go_wp2_with (first
        | (at_lookup; refine wpList_lookup_own_int _ rfl _ _ 47 rfl 3 3 .i64 (Maps.int_keyed Try.underlying3) Try.underlying47 Try.underlying3 (Try.zeroValue3 _) bm q D rfl hown3 _ _ rfl (Maps.keyOf_int_mk Try.underlying3 hkw) ?_; intro cc hat hwc; obtain rfl : cc = C (b - 1 - n) := (by rw [HC.out] at hat; injection hat with hat; injection hat with _ hat; exact hat.symm))
        | (at_mapUpdate; refine wpList_mapUpdate_own _ rfl _ _ _ 47 rfl 3 3 (Maps.int_keyed Try.underlying3) Try.underlying47 _ bm q D rfl hown3 (by simp only [maxLen]; omega) _ _ _ rfl rfl (Maps.keyOf_int_mk Try.underlying3 hkw) _ [] (plainElem_int Try.underlying3 (lit_wf (by omega) (by omega))) ?_; intro w1 hown1 hgrow1; obtain ⟨x3, r1, rf1⟩ := HG.out w1 hgrow1))
  try simp only [Exit.inBlock, Exit.then]
  refine bodyPost_ret (results_bool rfl _ (g := W.heap.size + 1 + 1) (r := true) rfl (World.cell?_setCell_same' _ _ _ (by rw [r1]; rfl))) rfl ?_
  exact HP.out _ hown1 hgrow1
set_option maxHeartbeats 4000000 in
theorem thr_leaf (hA : Asks l full J Jx) (d : Nat) (k n : Int) (s : ByteArray) (A : Option Addr) (c : Nat) (b : Int) (N : Nat) (C : Int → Int) (pre : List Int) (Z : Nat → Prop) (W : World) (hk : k ≠ 1)
    (h : ThrPre l M T Yb bm full J X (.node k n s []) A d b N C pre Z W) :
    Calls Try.prog 31 (thrArgs M T Yb (ev (.node k n s []) A c) b) W (ThrPost l M T Yb bm full J Jx (.node k n s []) b N C pre Z W) := by
  show Calls Try.prog 31 #[.agg #[.int .i64 k, .int .i64 n, .string s, .slice A 0 (capF 0 c)], .int .i64 b, .pointer (some ⟨M, 0, none⟩), .pointer (some ⟨T, 0, none⟩), .pointer (some ⟨Yb, 0, none⟩)] W _
  generalize capF 0 c = c
  obtain ⟨w3, hw3⟩ : ∃ w3, w3 = ((W.alloc (.cells #[.int .i64 k, .int .i64 n, .string s, .slice A 0 c] 24)).alloc (.cells #[.int .i64 b] 3)).alloc (.cells #[.bool false] 4) := ⟨_, rfl⟩
  have hG : Gz No No W No w3 := by rw [hw3]; exact (((Gz.refl _ _ _).alloc _).alloc _).alloc _
  have hs3 : w3.heap.size = W.heap.size + 3 := by rw [hw3]; simp
  have L0 : Lies w3 W.heap.size 24 #[.int .i64 k, .int .i64 n, .string s, .slice A 0 c] := by rw [hw3]; exact ((Lies.new _ _ _).old _).old _
  have L2 : Lies w3 (W.heap.size + 2) 4 #[.bool false] := by rw [hw3]; exact lies_next _ _ _ _ (by simp)
  have hPost : ThrPost l M T Yb bm full J Jx (.node k n s []) b N C pre Z W (.returned (.bool true)) (w3.setCell ⟨W.heap.size + 2, 0, none⟩ (.bool true)) := by
    have hG4 : Gz (· = bm) No W No (w3.setCell ⟨W.heap.size + 2, 0, none⟩ (.bool true)) := (hG.more (fun _ h => h.elim)).setCell _ _ (.inl (by show _ ≤ W.heap.size + 2; omega))
    have hG5 : Gz No No W No (w3.setCell ⟨W.heap.size + 2, 0, none⟩ (.bool true)) := hG.setCell _ _ (.inl (by show _ ≤ W.heap.size + 2; omega))
    refine ⟨true, Z, rfl, hG4.any, fun _ => ⟨?_, ?_⟩, fun h => by cases h⟩
    · rw [keyC_node C k n s [] b hk, keyCL_nil]
      obtain ⟨q, D, hown, hqN, hC⟩ := h.mapi
      have hss : sizeE (.node k n s []) = 1 := by simp [sizeE, sizeEL]
      have hm2 : MapIs W bm (N + sizeE (.node k n s [])) C := ⟨q, D, hown, by omega, hC⟩
      exact hm2.heap (hG5.same bm h.mapi.lt (fun h => h) (fun h => h))
    · have : (ofE (.node k n s [])).reverse = [] := by simp [ofE, ofEL, ownE]
      rw [this, List.append_nil]
      exact hA.own h.asks hG5 fun k hz e => e
  obtain ⟨R, hR⟩ : ∃ R, R = ThrPost l M T Yb bm full J Jx (.node k n s []) b N C pre Z W := ⟨_, rfl⟩
  rw [← hR] at hPost ⊢
  have HP := Lib.hid hPost
  have c0 := L0.four
  have r1 : w3.cell? ⟨W.heap.size + 1 + 1, 0, none⟩ = some (.bool false) := L2.cell 0
  have rf1 : w3.frozen? ⟨W.heap.size + 1 + 1, 0, none⟩ = false := L2.frozen 0
  have hk1 : (k == 1) = false := by simpa using hk
  clear hPost hR hG L0 L2 hA h hk
  go_enter Try.func31, Try.ntmps31
  go_upto_region 1 with fail
  rw [← hw3]
  clear hw3
  go_wp2_with fail
  try simp only [Exit.inBlock, Exit.then]
  refine bodyPost_ret (results_bool rfl _ (g := W.heap.size + 1 + 1) (r := true) rfl (World.cell?_setCell_same' _ _ _ (by rw [r1]; rfl))) rfl ?_
  exact HP.out
end
end Lx
end Go.Proofs.Ytgnafcnokenogaa
