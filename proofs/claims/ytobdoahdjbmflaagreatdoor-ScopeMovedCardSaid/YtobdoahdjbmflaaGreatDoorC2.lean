/-
  Texts that lie one behind the other: Rf Leaf Shelf Words Tok Sign.
-/
import Derived.Test.YtobdoahdjbmflaaGreatDoorC1
import Derived.Test.YtobdoahdjbmflaaGreatDoorProg
import Derived.RangeFuncNested
import Derived.RangeFuncBound
import Derived.RangeFuncCalls
import Derived.RangeFuncLeaves
import Derived.OrdersIn
import Derived.TacticsIn
import Derived.Lib.Hide
import Derived.WalkKit
import Derived.BigCall
import Derived.WalkLawsBesides
import Derived.Below
import Derived.Lib.OthersKept
import Derived.Shelf.Abstract
import Derived.Shelf.LaysM
import Derived.Shelf.Strconv.Clone
import Derived.Shelf.Strings.Prefix
import Derived.Laws.OwnMore
import Derived.Laws.Rows
import Derived.Deep.Draws
import Derived.Lib.IndexBytes
namespace Go.Proofs.YtobdoahdjbmflaaGreatDoor
open Go Go.RowKit
namespace Lx
set_option maxRecDepth 100000
section
variable {P : Program} {ops : Array Oper} {Q : Exit → Act → World → Prop} {n : Nat}
/-- What is walked plainly is walked within the wide fence. -/
theorem ops_in (hQ : ¬ LetsOut Q) : ∀ (is : List Nat) (a : Act) (w : World), wpOps P ops Q is a w → wpOpsIn Fence.wide n P ops Q is a w := by
  intro is
  induction is with
  | nil => exact fun a w h => h
  | cons i rest ih =>
    intro a w h
    simp only [wpOps, wpOpsIn] at h ⊢
    cases ho : ops[i]? with
    | none => simp only [ho] at h ⊢; exact ih a w h
    | some o =>
      simp only [ho] at h ⊢
      split
      · rename_i hw
        simp only [hw, if_true] at h
        have h := h.resolve_right fun hh => hQ hh.2
        refine ⟨fun _ _ => trivial, ?_⟩
        show o.uponIn Fence.wide n P a _ Q ((o.semAt none a.eval).run P w)
        rw [Oper.semAt_none]
        unfold Oper.wp at h
        generalize (execOp a.eval o).run P w = r at h ⊢
        cases r with
        | ok x w' =>
          cases x <;> simp only [Oper.upon, Oper.uponIn] at h ⊢
          case value v => exact ih _ _ h
          case skip => exact ih _ _ h
          case defer d => exact ih _ _ h
          case enter f args => exact ⟨fun hd => (by cases hd), callsIn_wide.2 (Calls.mono h fun e w'' he => by cases e <;> first | exact ih _ _ he | exact he)⟩
          case row row args => exact ⟨fun hd => (by cases hd), fun c cs _ => let ⟨v, w'', r, s⟩ := h c cs; ⟨v, w'', ih _ _ r, stepsIn_wide.2 s⟩⟩
        | halt x w' => cases x <;> simp only [Oper.upon, Oper.uponIn] at h ⊢ <;> exact h
      · rename_i hw
        simp only [hw] at h
        exact ⟨fun _ _ => trivial, ih _ _ h⟩
def noDefer (ops : Array Oper) : Bool := ops.all fun o => match o.op with | .defer _ => false | _ => true
theorem noDefer_at (h : noDefer ops = true) {i : Nat} {o : Oper} (ho : ops[i]? = some o) (c : Call) : o.op ≠ .defer c := by
  intro hc
  have hi := (Array.getElem?_eq_some_iff.1 ho).1
  have := (Array.all_eq_true.1 h) i hi
  rw [(Array.getElem?_eq_some_iff.1 ho).2, hc] at this
  cases this
theorem uponIn_round_eq {l : Nat} {o : Oper} {a : Act} {next : Act → World → Prop} (r : Result Next) : o.uponIn (Fence.wide.inRound l) n P a next Q r = o.uponIn Fence.wide n P a next Q r := by
  cases r with
  | ok x w => cases x <;> rfl
  | halt x w => cases x <;> rfl
/-- Within a round all but a defer is as everywhere. -/
theorem ops_round {l : Nat} (hnd : noDefer ops = true) : ∀ (is : List Nat) (a : Act) (w : World), wpOpsIn Fence.wide n P ops Q is a w → wpOpsIn (Fence.wide.inRound l) n P ops Q is a w := by
  intro is
  induction is with
  | nil => exact fun a w h => h
  | cons i rest ih =>
    intro a w h
    simp only [wpOpsIn] at h ⊢
    cases ho : ops[i]? with
    | none => simp only [ho] at h ⊢; exact ih a w h
    | some o =>
      simp only [ho] at h ⊢
      split
      · rename_i hw
        simp only [hw, if_true] at h
        have h2 := Oper.wpIn_mono ih h
        refine ⟨fun _ _ => trivial, ?_⟩
        rw [uponIn_round_eq]
        have h3 := h2.2
        have e1 : o.semAt Fence.wide.round a.eval = execOp a.eval o := Oper.semAt_none _ _
        have e2 : o.semAt (Fence.wide.inRound l).round a.eval = execOp a.eval o := Oper.semAt_some _ _ _ (noDefer_at hnd ho)
        rw [e1] at h3
        rw [e2]
        exact h3
      · rename_i hw
        simp only [hw] at h
        exact ⟨fun _ _ => trivial, ih _ _ h.2⟩
theorem region_round0 {l id : Nat} {a : Act} {w : World} (hm : P.follows .mixedOrders = true) (hnd : noDefer ops = true)
    (h : wpAnyIn Fence.wide n P .any ops Q ops.size (Array.replicate ops.size false) a w.drew) : (Code.region id ops true).wpIn (Fence.wide.inRound l) n P Q a w :=
  wpIn_region_draw fun t => by
    simp only [Region.schedule, hm, Bool.true_or, if_true]
    exact ops_round hnd _ _ _ (wpAnyIn_sound ops.size t _ a _ h)
theorem region_K_round {S : World → Prop} {l id : Nat} {a : Act} {w : World} (last : Nat) (hm : P.follows .mixedOrders = true) (hnd : noDefer ops = true) (hQ : ¬ LetsOut Q) (hS : S w.drew)
    (h : S w.drew → wpAnyK P .any ops Q S last ops.size (Array.replicate ops.size false) a w.drew) : (Code.region id ops true).wpIn (Fence.wide.inRound l) n P Q a w :=
  wpIn_region_draw fun t => by
    simp only [Region.schedule, hm, Bool.true_or, if_true]
    exact ops_round hnd _ _ _ (ops_in hQ _ _ _ (wpAny_sound ops.size t _ a _ (wpAny_of_K _ _ _ _ (h hS))))
theorem region_K_wide {S : World → Prop} {id : Nat} {a : Act} {w : World} (last : Nat) (hm : P.follows .mixedOrders = true) (hS : S w.drew)
    (h : S w.drew → wpAnyK P .any ops Q S last ops.size (Array.replicate ops.size false) a w.drew) : (Code.region id ops true).wpIn Fence.wide n P Q a w :=
  wpIn_wide.2 (wp_region_K last hm hS h)

/-! ### The statement, and a round -/
/-- The loop's record. -/
def recOf (fn : FuncId) (a : Act) (ps : Array Tmp) (assign body : Code) (D : Nat) (st : LoopState) (pe : Option Code) : Loop :=
  { state := st, pending := pe, fn, tmps := a.tmps, params := ps, assign, body, defers := D }
def markOf (D : Nat) : Deferred := { target := .collected D, args := #[] }
/-- What is asked behind the function that is ranged over: the record is ready, and on behind the statement; or a jump pends. -/
def behind (P : Program) (n : Nat) (Q : Exit → Act → World → Prop) (fn : FuncId) (a : Act) (ps : Array Tmp) (assign body : Code) (D : Nat) (W : World) : Prop :=
  (W.heap[D + 1]? = some (.loop (recOf fn a ps assign body D .ready none)) ∧ Q .normal { a with defers := markOf D :: a.defers } (W.putObj (D + 1) (.loop (recOf fn a ps assign body D .exhausted none)))) ∨
  (∃ c, W.heap[D + 1]? = some (.loop (recOf fn a ps assign body D .done (some c))) ∧ c.wpIn Fence.wide n P Q { a with defers := markOf D :: a.defers } (W.putObj (D + 1) (.loop (recOf fn a ps assign body D .exhausted (some c)))))
/-- The world in which the function that is ranged over is called. -/
def laidRf (w : World) (fn : FuncId) (a : Act) (ps : Array Tmp) (assign body : Code) : World := (w.alloc (.deferred (some []))).alloc (.loop (recOf fn a ps assign body w.heap.size .ready none))
theorem range_in {g : Operand} {ps : Array Tmp} {assign body : Code} {a : Act} {w : World} {gf : Nat} {lb : Array Value} (hg : a.eval g = .func (.func gf) #[] lb) (eg : ∀ args w, (callFunc gf args).run P w = .ok (.enter gf args) w)
    (h : ∀ fn, Calls P gf (#[.func (.yield (w.heap.size + 1)) #[] #[]] ++ lb) (laidRf w fn a ps assign body) fun e W => (∃ v, e = .returned v) ∧ behind P n Q fn a ps assign body w.heap.size W) :
    (Code.rangeFunc g ps assign body).wpIn Fence.wide n P Q a w := by
  refine wpIn_rangeFunc ?_
  intro fn _
  refine ⟨w.heap.size + 1, [{ target := .collected w.heap.size, args := #[] }], laidRf w fn a ps assign body, { target := .fn (.func gf) lb, args := #[.func (.yield (w.heap.size + 1)) #[] #[]] }, laidRf w fn a ps assign body, gf,
    #[.func (.yield (w.heap.size + 1)) #[] #[]] ++ lb, laidRf w fn a ps assign body, ?_, ?_, ?_, ?_, (fun h => by cases h), ?_⟩
  · exact run_enterLoop_outer _ _ _ _ _
  · simp only [resolve, hg]
    simp [go_sem]
  · intro f' _; trivial
  · simp [invoke, go_sem, eg]
  · refine callsIn_wide.2 (Calls.mono (h fn) ?_)
    rintro e W ⟨⟨v, rfl⟩, (⟨hl, hq⟩ | ⟨c, hl, hq⟩)⟩
    · exact ⟨none, _, run_endLoop (P := P) hl (by simp [recOf]), hq⟩
    · exact ⟨some c, _, run_endLoop (P := P) hl (by simp [recOf]), hq⟩
/-- How a round's body may be left: off its end, or by a return. -/
def roundQ (l : Nat) (rec : LoopState → Option Code → Loop) (R : Ending → World → Prop) : Exit → Act → World → Prop
  | .normal, _, W => W.heap[l]? = some (.loop (rec .busy none)) ∧ R (.returned (.bool true)) (W.putObj l (.loop (rec .ready none)))
  | .ret, _, W => W.heap[l]? = some (.loop (rec .busy none)) ∧ R (.returned (.bool false)) (W.putObj l (.loop (rec .done (some .ret))))
  | _, _, _ => False
theorem roundQ_out {l : Nat} {rec : LoopState → Option Code → Loop} {R : Ending → World → Prop} : ¬ LetsOut (roundQ l rec R) := fun ⟨_, _, h⟩ => h
theorem yield_in {l : Nat} {fn : FuncId} {a : Act} {ps : Array Tmp} {assign body : Code} {D : Nat} {args : Array Value} {W : World} {R : Ending → World → Prop}
    (hl : W.heap[l]? = some (.loop (recOf fn a ps assign body D .ready none))) (hps : args.size = ps.size)
    (h : assign.wpIn (Fence.wide.inRound l) n P (Exit.then (fun a₁ W₁ => W₁.heap[l]? = some (.loop (recOf fn a ps assign body D .ready none)) ∧
        body.wpIn (Fence.wide.inRound l) n P (roundQ l (recOf fn a ps assign body D) R) a₁ (W₁.putObj l (.loop (recOf fn a ps assign body D .busy none)))) (fun _ _ _ => False))
      { tmps := (ps.zip args).foldl (fun t (p, v) => t.setIfInBounds p v) a.tmps, defers := [] } W) :
    YieldAt Fence.wide n P l args W R := by
  have hy := run_yield (P := P) (args := args) hl (by simpa [recOf] using hps)
  refine ⟨fn, _, assign, body, hy, roundIn_of_wpIn trivial ?_⟩
  refine wpIn_mono h ?_
  intro e a₁ W₁ he
  cases e with
  | normal =>
    obtain ⟨hl1, hb⟩ := he
    refine ⟨_, run_beginRound hl1 (by simp [recOf]), wpIn_mono hb ?_⟩
    intro e a₂ W₂ he
    cases e with
    | normal =>
      obtain ⟨hl2, hR⟩ := he
      exact ⟨_, _, run_endRound (P := P) none hl2, hR⟩
    | ret =>
      obtain ⟨hl2, hR⟩ := he
      exact ⟨_, _, run_endRound (P := P) (some .ret) hl2, hR⟩
    | exit id => exact he.elim
    | goto t => exact he.elim
    | panic c => exact he.elim
    | outgrown => exact he.elim
  | ret => exact he.elim
  | exit id => exact he.elim
  | goto t => exact he.elim
  | panic c => exact he.elim
  | outgrown => exact he.elim
/-- The same, the record a letter, and no jump but a return. -/
def behindR (Q : Exit → Act → World → Prop) (a : Act) (D : Nat) (rec : LoopState → Option Code → Loop) (W : World) : Prop :=
  (W.heap[D + 1]? = some (.loop (rec .ready none)) ∧ Q .normal { a with defers := markOf D :: a.defers } (W.putObj (D + 1) (.loop (rec .exhausted none)))) ∨
  (W.heap[D + 1]? = some (.loop (rec .done (some .ret))) ∧ Q .ret { a with defers := markOf D :: a.defers } (W.putObj (D + 1) (.loop (rec .exhausted (some .ret)))))
theorem range_rec {g : Operand} {ps : Array Tmp} {assign body : Code} {a : Act} {w : World} {gf : Nat} {lb : Array Value} (hg : a.eval g = .func (.func gf) #[] lb) (eg : ∀ args w, (callFunc gf args).run P w = .ok (.enter gf args) w)
    (h : ∀ fn rec, Hid (rec = recOf fn a ps assign body w.heap.size) → Calls P gf (#[.func (.yield (w.heap.size + 1)) #[] #[]] ++ lb) ((w.alloc (.deferred (some []))).alloc (.loop (rec .ready none))) fun e W => (∃ v, e = .returned v) ∧ behindR Q a w.heap.size rec W) :
    (Code.rangeFunc g ps assign body).wpIn Fence.wide n P Q a w :=
  range_in hg eg fun fn => (h fn _ (Lib.hid rfl)).mono fun e W hh => ⟨hh.1, by
    rcases hh.2 with ⟨h1, h2⟩ | ⟨h1, h2⟩
    · exact .inl ⟨h1, h2⟩
    · exact .inr ⟨.ret, h1, wpIn_ret h2⟩⟩
theorem yield_rec {l : Nat} {fn : FuncId} {a : Act} {ps : Array Tmp} {assign body : Code} {D : Nat} {args : Array Value} {W : World} {R : Ending → World → Prop} {rec : LoopState → Option Code → Loop}
    (hrec : Hid (rec = recOf fn a ps assign body D)) (hl : W.heap[l]? = some (.loop (rec .ready none))) (hps : args.size = ps.size)
    (h : assign.wpIn (Fence.wide.inRound l) n P (Exit.then (fun a₁ W₁ => W₁.heap[l]? = some (.loop (rec .ready none)) ∧ body.wpIn (Fence.wide.inRound l) n P (roundQ l rec R) a₁ (W₁.putObj l (.loop (rec .busy none)))) (fun _ _ _ => False))
      { tmps := (ps.zip args).foldl (fun t (p, v) => t.setIfInBounds p v) a.tmps, defers := [] } W) :
    YieldAt Fence.wide n P l args W R := by
  have e := hrec.out
  subst e
  exact yield_in hl hps h
/-- What ends normally, and in no other way. -/
def calm (Q : Exit → Act → World → Prop) : Exit → Act → World → Prop
  | .normal, a, w => Q .normal a w
  | _, _, _ => False
theorem calm_in {a : Act} {w : World} (h : Q .normal a w) : calm Q .normal a w := h
theorem calm_out : ∀ e a w, calm Q e a w → Q e a w
  | .normal, _, _, h => h
  | .ret, _, _, h => h.elim
  | .exit _, _, _, h => h.elim
  | .goto _, _, _, h => h.elim
  | .panic _, _, _, h => h.elim
  | .outgrown, _, _, h => h.elim
theorem region_H_round {S : World → Prop} {l id : Nat} {a : Act} {w : World} (hm : P.follows .mixedOrders = true) (hnd : noDefer ops = true) (hS : S w.drew)
    (h : S w.drew → wpAnyH P .any ops (calm Q) S ops.size (Array.replicate ops.size false) a w.drew) : (Code.region id ops true).wpIn (Fence.wide.inRound l) n P Q a w :=
  wpIn_mono (wpIn_region_draw fun t => by
    simp only [Region.schedule, hm, Bool.true_or, if_true]
    exact ops_round hnd _ _ _ (ops_in (fun ⟨_, _, h⟩ => h) _ _ _ (wpAny_sound ops.size t _ a _ (wpAny_of_held _ _ _ _ (h hS))))) calm_out
theorem region_H_wide {S : World → Prop} {id : Nat} {a : Act} {w : World} (hm : P.follows .mixedOrders = true) (hS : S w.drew)
    (h : S w.drew → wpAnyH P .any ops (calm Q) S ops.size (Array.replicate ops.size false) a w.drew) : (Code.region id ops true).wpIn Fence.wide n P Q a w :=
  wpIn_mono (wpIn_wide.2 (wp_region_held_drew hm hS h)) calm_out
theorem region_round {l id : Nat} {a : Act} {w : World} (hm : P.follows .mixedOrders = true) (hnd : noDefer ops = true)
    (h : wpAnyIn Fence.wide n P .any ops (calm Q) ops.size (Array.replicate ops.size false) a w.drew) : (Code.region id ops true).wpIn (Fence.wide.inRound l) n P Q a w :=
  wpIn_mono (region_round0 hm hnd h) calm_out
/-- A function's end behind one loop, and behind two. -/
theorem ends1 {fn : Func} {R : Ending → World → Prop} {tmps : Array Value} {D : Nat} {W : World} {v : Value} (hD : W.heap[D]? = some (.deferred (some [])))
    (hv : (results fn tmps).run P (W.putObj D (.deferred none)) = .ok v (W.putObj D (.deferred none))) (hR : R (.returned v) (W.putObj D (.deferred none))) :
    LeavesInM Fence.wide n P fn tmps R [markOf D] .returning W :=
  ⟨by simp, .inl ⟨_, _, rfl, run_takeDeferred hD, ⟨_, hv, hR⟩⟩⟩
theorem ends2 {fn : Func} {R : Ending → World → Prop} {tmps : Array Value} {D E : Nat} {W : World} {v : Value} (hD : W.heap[D]? = some (.deferred (some []))) (hE : W.heap[E]? = some (.deferred (some []))) (hne : E ≠ D)
    (hv : (results fn tmps).run P ((W.putObj D (.deferred none)).putObj E (.deferred none)) = .ok v ((W.putObj D (.deferred none)).putObj E (.deferred none))) (hR : R (.returned v) ((W.putObj D (.deferred none)).putObj E (.deferred none))) :
    LeavesInM Fence.wide n P fn tmps R [markOf D, markOf E] .returning W :=
  ⟨by simp, .inl ⟨_, _, rfl, run_takeDeferred hD, ends1 ((World.putObj_heap_other hne).trans hE) hv hR⟩⟩
/-- The depth is of no moment within the wide fence. -/
theorem YieldAt.depth {m m' l : Nat} {args : Array Value} {W : World} {R : Ending → World → Prop} (h : YieldAt Fence.wide m P l args W R) : YieldAt Fence.wide m' P l args W R := by
  obtain ⟨fn, tmps, assign, body, hy, hR⟩ := h
  exact ⟨fn, tmps, assign, body, hy, hR.1, fun c cs _ => hR.2 c cs (room_wide _)⟩
end
/-! ### What has turned -/
/-- From A on, Z being what is somebody else's: nothing has turned but what is Z's, what E allows, and new blocks; Z' is Z and new ones. -/
structure Gz (E Z : Nat → Prop) (A : World) (Z' : Nat → Prop) (B : World) : Prop where
  os : B.os = A.os
  tape : B.tape = A.tape
  output : B.output = A.output
  size : A.heap.size ≤ B.heap.size
  same : ∀ k, k < A.heap.size → ¬ Z k → ¬ E k → B.heap[k]? = A.heap[k]?
  ext : ∀ k, Z' k → Z k ∨ A.heap.size ≤ k
variable {E E' Z Z' Z'' : Nat → Prop} {A B C : World}
theorem Gz.refl (E Z : Nat → Prop) (A : World) : Gz E Z A Z A := ⟨rfl, rfl, rfl, Nat.le_refl _, fun _ _ _ _ => rfl, fun _ h => .inl h⟩
/-- What comes behind may turn more of what is new. -/
theorem Gz.tail (h : Gz E Z A Z' B) (k : Gz E' Z' B Z'' C) (hE : ∀ i, i < A.heap.size → E' i → E i) : Gz E Z A Z'' C :=
  ⟨k.os.trans h.os, k.tape.trans h.tape, k.output.trans h.output, Nat.le_trans h.size k.size,
    fun i hi hz he => (k.same i (Nat.lt_of_lt_of_le hi h.size) (fun hz' => by exact (h.ext i hz').elim hz (fun h' => absurd hi (by omega))) (fun he' => he (hE i hi he'))).trans (h.same i hi hz he),
    fun i hz => (k.ext i hz).elim (h.ext i) (fun h' => .inr (Nat.le_trans h.size h'))⟩
theorem Gz.trans (h : Gz E Z A Z' B) (k : Gz E Z' B Z'' C) : Gz E Z A Z'' C := h.tail k fun _ _ he => he
theorem Gz.more (h : Gz E Z A Z' B) (hE : ∀ i, E i → E' i) : Gz E' Z A Z' B := ⟨h.os, h.tape, h.output, h.size, fun i hi hz he => h.same i hi hz fun h' => he (hE i h'), h.ext⟩
theorem Gz.alloc (h : Gz E Z A Z' B) (o : Obj) : Gz E Z A Z' (B.alloc o) :=
  ⟨h.os, h.tape, h.output, by rw [World.size_alloc]; have := h.size; omega, fun i hi hz he => (Below.heap_alloc B o i (by have := h.size; omega)).trans (h.same i hi hz he), h.ext⟩
theorem Gz.drew (h : Gz E Z A Z' B) : Gz E Z A Z' B.drew := ⟨h.os, h.tape, h.output, h.size, h.same, h.ext⟩
theorem Gz.put (h : Gz E Z A Z' B) {l : Nat} (o : Obj) (hl : A.heap.size ≤ l ∨ E l) : Gz E Z A Z' (B.putObj l o) :=
  ⟨h.os, h.tape, h.output, by rw [World.putObj_size]; exact h.size, fun i hi hz he => (World.putObj_heap_other (fun e => by subst e; exact hl.elim (fun h' => by omega) he)).trans (h.same i hi hz he), h.ext⟩
theorem Gz.below (h : Gz E Z A Z' B) {k : World} {m : Nat} (hb : Below m B k) (hm : A.heap.size ≤ m) : Gz E Z A Z' k :=
  ⟨hb.os.trans h.os, hb.tape.trans h.tape, hb.output.trans h.output, Nat.le_trans h.size hb.size, fun i hi hz he => (hb.block i (by omega)).trans (h.same i hi hz he), h.ext⟩
theorem Gz.of_below {m : Nat} (hb : Below m A B) (hm : A.heap.size ≤ m) : Gz E Z A Z B := (Gz.refl E Z A).below hb hm
theorem Gz.toBelow {m : Nat} (h : Gz E Z A Z' B) (hz : ∀ k, k < m → k < A.heap.size ∧ ¬ Z k ∧ ¬ E k) : Below m A B :=
  ⟨h.os, h.tape, h.output, h.size, fun k hk => let ⟨a, b, c⟩ := hz k hk; h.same k a b c⟩
theorem Gz.heap (h : Gz E Z A Z' B) {k : Nat} {o : Obj} (hk : A.heap[k]? = some o) (hz : ¬ Z k) (he : ¬ E k) : B.heap[k]? = some o :=
  (h.same k (Array.getElem?_eq_some_iff.1 hk).1 hz he).trans hk
theorem Gz.lies (h : Gz E Z A Z' B) {k : Nat} {t : TypeId} {cs : Array Value} (hk : A.heap[k]? = some (.cells cs t)) (hz : ¬ Z k) (he : ¬ E k) : B.heap[k]? = some (.cells cs t) := h.heap hk hz he
theorem Gz.not (h : Gz E Z A Z' B) {k : Nat} (hk : k < A.heap.size) (hz : ¬ Z k) : ¬ Z' k := fun h' => (h.ext k h').elim hz (fun h'' => by omega)
end Lx
end Go.Proofs.YtobdoahdjbmflaaGreatDoor
namespace Go.Proofs.YtobdoahdjbmflaaGreatDoor
open Go.RowKit
namespace Lx
set_option maxRecDepth 100000
theorem ret_bool {a b : Bool} (h : a = b) : Ending.returned (.bool a) = .returned (.bool b) := by rw [h]
theorem ret_int {k : IntKind} {a b : Int} (h : a = b) : Ending.returned (.int k a) = .returned (.int k b) := by rw [h]

theorem small_any (r : Int) (w : World) : Calls Tryz.prog 115 #[.int .i32 r] w fun e w' => e = .returned (.bool (lowR r)) ∧ w = w' := by
  go_enter Tryz.func115, Tryz.ntmps115
  go_wp2
  all_goals
    go_ret
    refine ⟨ret_bool ?_, rfl⟩
    first | (simp [lowR, *]; done) | (simp [lowR]; omega)
theorem capital_any (r : Int) (w : World) : Calls Tryz.prog 116 #[.int .i32 r] w fun e w' => e = .returned (.bool (upR r)) ∧ w = w' := by
  go_enter Tryz.func116, Tryz.ntmps116
  go_wp2
  all_goals
    go_ret
    refine ⟨ret_bool ?_, rfl⟩
    first | (simp [upR, *]; done) | (simp [upR]; omega)
theorem digit_any (r : Int) (w : World) : Calls Tryz.prog 117 #[.int .i32 r] w fun e w' => e = .returned (.bool (digR r)) ∧ w = w' := by
  go_enter Tryz.func117, Tryz.ntmps117
  go_wp2
  all_goals
    go_ret
    refine ⟨ret_bool ?_, rfl⟩
    first | (simp [digR, *]; done) | (simp [digR]; omega)
theorem blank_any (r : Int) (w : World) : Calls Tryz.prog 110 #[.int .i32 r] w fun e w' => e = .returned (.bool (blkR r)) ∧ w = w' := by
  go_enter Tryz.func110, Tryz.ntmps110
  go_wp2
  all_goals
    go_ret
    refine ⟨ret_bool ?_, rfl⟩
    first | rfl | (simp [blkR, *]; done)
theorem ld_any (r : Int) (w : World) : Calls Tryz.prog 112 #[.int .i32 r] w fun e w' => e = .returned (.bool (ldR r)) ∧ w = w' := by
  cases h1 : lowR r
  · cases h2 : upR r
    · go_enter Tryz.func112, Tryz.ntmps112
      go_wp2_with (first | (go_at_call 115; refine (small_any _ _).mono ?_; rintro e w' ⟨rfl, rfl⟩) | (go_at_call 116; refine (capital_any _ _).mono ?_; rintro e w' ⟨rfl, rfl⟩) | (go_at_call 117; refine (digit_any _ _).mono ?_; rintro e w' ⟨rfl, rfl⟩))
      all_goals
        go_ret
        refine ⟨ret_bool ?_, rfl⟩
        simp [ldR, h1, h2]
    · go_enter Tryz.func112, Tryz.ntmps112
      go_wp2_with (first | (go_at_call 115; refine (small_any _ _).mono ?_; rintro e w' ⟨rfl, rfl⟩) | (go_at_call 116; refine (capital_any _ _).mono ?_; rintro e w' ⟨rfl, rfl⟩) | (go_at_call 117; refine (digit_any _ _).mono ?_; rintro e w' ⟨rfl, rfl⟩))
      all_goals
        go_ret
        refine ⟨ret_bool ?_, rfl⟩
        simp [ldR, h1, h2]
  · go_enter Tryz.func112, Tryz.ntmps112
    go_wp2_with (first | (go_at_call 115; refine (small_any _ _).mono ?_; rintro e w' ⟨rfl, rfl⟩) | (go_at_call 116; refine (capital_any _ _).mono ?_; rintro e w' ⟨rfl, rfl⟩) | (go_at_call 117; refine (digit_any _ _).mono ?_; rintro e w' ⟨rfl, rfl⟩))
    all_goals
      go_ret
      refine ⟨ret_bool ?_, rfl⟩
      simp [ldR, h1]

theorem decode_big (s : ByteArray) (pos : Nat) (h : pos < s.size) (hh : 128 ≤ (s[pos]'h).toNat) : 128 ≤ ((Utf8.decode s pos).1 : Int) := by
  have := (decode_high s pos h hh).1
  omega

set_option maxHeartbeats 400000 in
theorem span_any (K : Nat) (P : Int → Bool) (hen : ∀ args w, (callFunc K args).run Tryz.prog w = .ok (.enter K args) w)
    (hP : ∀ (r : Int) (w : World), Calls Tryz.prog K #[.int .i32 r] w fun e w' => e = .returned (.bool (P r)) ∧ w = w') (hhi : ∀ r, 128 ≤ r → P r = false)
    (s : ByteArray) (w : World) :
    Calls Tryz.prog 109 #[.string s, .func (.func K) #[] #[]] w fun e w' => e = .returned (.int .i64 (run P s.data.toList)) ∧ Below w.heap.size w w' := by
  go_enter Tryz.func109, Tryz.ntmps109
  go_wp2_with fail
  go_loopw [] (fun wr => ∃ k : Nat, k ≤ s.size ∧ wr = w.iter s k ∧ run P s.data.toList = k + run P (s.data.toList.drop k)) (fun wr => s.size - wr.iterPos w.heap.size)
  case atStart => exact ⟨0, Nat.zero_le _, rfl, by simp⟩
  case round =>
    obtain ⟨k, hk, rfl, hrun⟩ := hrel
    have HR := Lib.hid hrun
    clear hrun
    by_cases hlt : k < s.size
    · have hlen : k < s.data.toList.length := by simpa using hlt
      have hb : s.data.toList[k]'hlen = s[k] := by simp [ByteArray.getElem_eq_getElem_data]
      have hd := Lib.hid (run_drop P s.data.toList k hlen)
      rw [hb] at hd
      clear hb
      have hnx : ∀ ty, (Instr.next (.pointer (some ⟨w.heap.size, 0, none⟩)) true ty).run Tryz.prog (w.iter s k) = _ := fun ty => run_next_any w s k ty hlt
      by_cases ha : (s[k]'hlt).toNat < 128
      · have he := decode_ascii s k hlt ha
        rw [he] at hnx
        clear he
        cases hp : P ((s[k]'hlt).toNat : Int)
        · go_wp2_with fail
          refine (hP _ _).mono ?_
          rintro e w' ⟨rfl, rfl⟩
          go_wp2_with fail
          go_ret
          refine ⟨ret_int ?_, (Below.refl _ w).alloc (Nat.le_refl _) _⟩
          rw [HR.out, hd.out, hp]
          simp
        · go_wp2_with fail
          refine (hP _ _).mono ?_
          rintro e w' ⟨rfl, rfl⟩
          go_wp2_with fail
          go_roundw
          case rel =>
            refine ⟨k + 1, by omega, rfl, ?_⟩
            rw [HR.out, hd.out, hp]
            simp; omega
          case measure => simp; omega
      · have hbig : 128 ≤ ((Utf8.decode s k).1 : Int) := decode_big s k hlt (by omega)
        have hp := hhi _ hbig
        have hq := Lib.hid (hhi ((s[k]'hlt).toNat : Int) (by omega))
        go_wp2_with fail
        refine (hP _ _).mono ?_
        rintro e w' ⟨rfl, rfl⟩
        go_wp2_with fail
        go_ret
        refine ⟨ret_int ?_, (Below.refl _ w).alloc (Nat.le_refl _) _⟩
        rw [HR.out, hd.out, hq.out]
        simp
    · have hnx : ∀ ty, (Instr.next (.pointer (some ⟨w.heap.size, 0, none⟩)) true ty).run Tryz.prog (w.iter s k) = _ := fun ty => run_next_end w s k ty hlt
      go_wp2
      go_ret
      refine ⟨ret_int ?_, ?_⟩
      · rw [HR.out, run_nil P _ _ (by simp; omega)]
        simp; omega
      · exact (Below.refl _ w).alloc (Nat.le_refl _) _

theorem span_blk (s : ByteArray) (w : World) : Calls Tryz.prog 109 #[.string s, .func (.func 110) #[] #[]] w fun e w' => e = .returned (.int .i64 (run blkR s.data.toList)) ∧ Below w.heap.size w w' :=
  span_any 110 blkR (enters_of Tryz.func110 (by kernel_rfl) rfl) blank_any (fun r h => by simp [blkR]; omega) s w
theorem span_ld (s : ByteArray) (w : World) : Calls Tryz.prog 109 #[.string s, .func (.func 112) #[] #[]] w fun e w' => e = .returned (.int .i64 (run ldR s.data.toList)) ∧ Below w.heap.size w w' :=
  span_any 112 ldR (enters_of Tryz.func112 (by kernel_rfl) rfl) ld_any (fun r h => by simp [ldR, lowR, upR, digR]; omega) s w
theorem span_dig (s : ByteArray) (w : World) : Calls Tryz.prog 109 #[.string s, .func (.func 117) #[] #[]] w fun e w' => e = .returned (.int .i64 (run digR s.data.toList)) ∧ Below w.heap.size w w' :=
  span_any 117 digR (enters_of Tryz.func117 (by kernel_rfl) rfl) digit_any (fun r h => by simp [digR]; omega) s w
theorem span_low (s : ByteArray) (w : World) : Calls Tryz.prog 109 #[.string s, .func (.func 115) #[] #[]] w fun e w' => e = .returned (.int .i64 (run lowR s.data.toList)) ∧ Below w.heap.size w w' :=
  span_any 115 lowR (enters_of Tryz.func115 (by kernel_rfl) rfl) small_any (fun r h => by simp [lowR]; omega) s w
end Lx
end Go.Proofs.YtobdoahdjbmflaaGreatDoor
namespace Go.Proofs
open Go.Shelf
def Tryz.laysM316_ren : Go.Shelf.Ren := ⟨fun | 316 => 50 | n => n, fun | 9 => 9 | 3 => 3 | 4 => 4 | 37 => 100 | 0 => 0 | 127 => 101 | 5 => 5 | n => n, fun | n => n⟩
theorem Tryz.laysM316 : Go.Proofs.LaysM.n316 Tryz.prog Tryz.laysM316_ren := {
  mixed := by kernel_rfl
  f316 := Tryz.func50.trans (congrArg some (by kernel_rfl))
  t0 := Tryz.underlying0
  a0 := Tryz.isAgg0
  z0 := Tryz.sizeOf0
  v0 := Tryz.zeroValue0
  t3 := Tryz.underlying3
  a3 := Tryz.isAgg3
  z3 := Tryz.sizeOf3
  v3 := Tryz.zeroValue3
  t4 := Tryz.underlying4
  a4 := Tryz.isAgg4
  z4 := Tryz.sizeOf4
  v4 := Tryz.zeroValue4
  t9 := Tryz.underlying9
  a9 := Tryz.isAgg9
  z9 := Tryz.sizeOf9
  v9 := Tryz.zeroValue9
  t37 := Tryz.underlying100
  a37 := Tryz.isAgg100
  z37 := Tryz.sizeOf100
  v37 := Tryz.zeroValue100
  t127 := Tryz.underlying101
  a127 := Tryz.isAgg101
  z127 := Tryz.sizeOf101
  v127 := Tryz.zeroValue101
  t5 := Tryz.underlying5
  a5 := Tryz.isAgg5
  z5 := Tryz.sizeOf5
  v5 := Tryz.zeroValue5
  i0 := by kernel_rfl
  i3 := by kernel_rfl
  i4 := by kernel_rfl
  i5 := by kernel_rfl
  i9 := by kernel_rfl
  i37 := by kernel_rfl
  i127 := by kernel_rfl }
open Go.RowKit in
theorem Tryz.stringslite_Clone (s : ByteArray) (w : World) (hlim : s.size ≤ 281474976710656) :
    Calls Tryz.prog 50 #[.string s] w fun e w' => e = .returned (.string s) ∧ Below w.heap.size w w' := Any.stringslite_Clone Tryz.laysM316 s w hlim
def Tryz.lays206_ren : Go.Shelf.Ren := ⟨fun | 206 => 120 | n => n, fun | 9 => 9 | 4 => 4 | 3 => 3 | n => n, fun | n => n⟩
theorem Tryz.lays206 : Go.Proofs.Lays.n206 Tryz.prog Tryz.lays206_ren := {
  mixed := by kernel_rfl
  f206 := Tryz.func120.trans (congrArg some (by kernel_rfl))
  t3 := Tryz.underlying3
  a3 := Tryz.isAgg3
  z3 := Tryz.sizeOf3
  v3 := Tryz.zeroValue3
  t4 := Tryz.underlying4
  a4 := Tryz.isAgg4
  z4 := Tryz.sizeOf4
  v4 := Tryz.zeroValue4
  t9 := Tryz.underlying9
  a9 := Tryz.isAgg9
  z9 := Tryz.sizeOf9
  v9 := Tryz.zeroValue9 }
def Tryz.lays99_ren : Go.Shelf.Ren := ⟨fun | 99 => 114 | 206 => 120 | n => n, fun | 9 => 9 | 4 => 4 | 3 => 3 | n => n, fun | n => n⟩
theorem Tryz.lays99 : Go.Proofs.Lays.n99 Tryz.prog Tryz.lays99_ren := {
  mixed := by kernel_rfl
  f99 := Tryz.func114.trans (congrArg some (by kernel_rfl))
  f206 := Tryz.func120.trans (congrArg some (by kernel_rfl))
  t3 := Tryz.underlying3
  a3 := Tryz.isAgg3
  z3 := Tryz.sizeOf3
  v3 := Tryz.zeroValue3
  t4 := Tryz.underlying4
  a4 := Tryz.isAgg4
  z4 := Tryz.sizeOf4
  v4 := Tryz.zeroValue4
  t9 := Tryz.underlying9
  a9 := Tryz.isAgg9
  z9 := Tryz.sizeOf9
  v9 := Tryz.zeroValue9 }
open Go.RowKit Go.Lib in
theorem Tryz.strings_HasPrefix (s p : ByteArray) (w : World) :
    Calls Tryz.prog 114 #[.string s, .string p] w fun e w' => e = .returned (.bool (Lib.hasPrefix s.data.toList p.data.toList)) ∧ w' = w := Any.strings_HasPrefix Tryz.lays99 s p w
end Go.Proofs
namespace Go.Proofs.YtobdoahdjbmflaaGreatDoor
open Go.RowKit
namespace Lx
set_option maxRecDepth 100000

/-- Block g holds just the cells cs, of element type t, and none of them is frozen. -/
def Lies (w : World) (g : Nat) (t : TypeId) (cs : Array Value) : Prop := w.heap[g]? = some (.cells cs t (0, 0))

section
variable {w w' : World} {g : Nat} {t : TypeId} {cs : Array Value}
theorem Lies.lt (h : Lies w g t cs) : g < w.heap.size := by
  by_cases hlt : g < w.heap.size
  · exact hlt
  · unfold Lies at h
    rw [Array.getElem?_eq_none (by omega)] at h
    cases h
theorem Lies.cell (h : Lies w g t cs) (i : Nat) : w.cell? ⟨g, i, none⟩ = cs[i]? := cell_of_row w g i cs t (0, 0) h
theorem Lies.frozen (h : Lies w g t cs) (i : Nat) : w.frozen? ⟨g, i, none⟩ = false := by
  unfold Lies at h
  simp [World.frozen?, h]
theorem Lies.new (w : World) (t : TypeId) (cs : Array Value) : Lies (w.alloc (.cells cs t)) w.heap.size t cs := by
  show (w.heap.push _)[w.heap.size]? = _
  simp
theorem Lies.old (h : Lies w g t cs) (o : Obj) : Lies (w.alloc o) g t cs := (Below.heap_alloc w o g h.lt).trans h
theorem Lies.drew (h : Lies w g t cs) : Lies w.drew g t cs := h
theorem Lies.drewN (h : Lies w g t cs) (n : Nat) : Lies (w.drewN n) g t cs := h
theorem Lies.below {B : Nat} (h : Lies w g t cs) (hb : Below B w w') (hg : g < B) : Lies w' g t cs := (hb.block g hg).trans h
theorem Lies.put (h : Lies w g t cs) (i : Nat) (u : Value) : Lies (w.setCell ⟨g, i, none⟩ u) g t (cs.setIfInBounds i u) := by
  unfold Lies at h ⊢
  simp [World.setCell, Array.getElem?_modify, h]
theorem Lies.far (h : Lies w g t cs) {p : Addr} (hp : g ≠ p.block) (u : Value) : Lies (w.setCell p u) g t cs := (Below.heap_setCell w p u g hp).trans h
theorem Lies.four {a b c d : Value} (h : Lies w g t #[a, b, c, d]) :
    (w.cell? ⟨g, 0, none⟩ = some a ∧ w.cell? ⟨g, 1, none⟩ = some b ∧ w.cell? ⟨g, 2, none⟩ = some c ∧ w.cell? ⟨g, 3, none⟩ = some d) ∧
    w.frozen? ⟨g, 0, none⟩ = false ∧ w.frozen? ⟨g, 1, none⟩ = false ∧ w.frozen? ⟨g, 2, none⟩ = false ∧ w.frozen? ⟨g, 3, none⟩ = false :=
  ⟨⟨h.cell 0, h.cell 1, h.cell 2, h.cell 3⟩, h.frozen 0, h.frozen 1, h.frozen 2, h.frozen 3⟩
end
end Lx
end Go.Proofs.YtobdoahdjbmflaaGreatDoor
namespace Go.Proofs.YtobdoahdjbmflaaGreatDoor
open Go.RowKit
namespace Lx
set_option maxRecDepth 100000
/-- A result that lies in a block of four cells, of type 33. -/
theorem res_tok {fn : Func} {p : Tmp} (h : fn.results = #[.cell p 71]) {tmps : Array Value} {g : Nat} {a b c d : Value} {w : World} (hp : tmps.getD p undef = .pointer (some ⟨g, 0, none⟩)) (L : Lies w g 71 #[a, b, c, d]) :
    (results fn tmps).run Tryz.prog w = .ok (.agg #[a, b, c, d]) w := by
  have hl := run_loadVar_row (P := Tryz.prog) w g 71 71 #[a, b, c, d] (0, 0) _ L Tryz.underlying71 rfl (by kernel_rfl)
  have hp' : tmps[p]?.getD undef = .pointer (some ⟨g, 0, none⟩) := by simpa using hp
  simp only [results, h]
  simp [hp', asAddr, hl]
theorem Lies.all {w : World} {g : Nat} {t : TypeId} {a b c d : Value} (h : Lies w g t #[a, b, c, d]) (x y z u : Value) : Lies ((((w.setCell ⟨g, 0, none⟩ x).setCell ⟨g, 1, none⟩ y).setCell ⟨g, 2, none⟩ z).setCell ⟨g, 3, none⟩ u) g t #[x, y, z, u] := by
  simpa using (((h.put 0 x).put 1 y).put 2 z).put 3 u
theorem Below.all {B : Nat} {a w : World} (h : Below B a w) {g : Nat} (hg : B ≤ g) (x y z u : Value) : Below B a ((((w.setCell ⟨g, 0, none⟩ x).setCell ⟨g, 1, none⟩ y).setCell ⟨g, 2, none⟩ z).setCell ⟨g, 3, none⟩ u) :=
  (((h.setCell (p := ⟨g, 0, none⟩) hg x).setCell (p := ⟨g, 1, none⟩) hg y).setCell (p := ⟨g, 2, none⟩) hg z).setCell (p := ⟨g, 3, none⟩) hg u

theorem clone_any (s : ByteArray) (w : World) (hs : s.size ≤ 281474976710656) : Calls Tryz.prog 31 #[.string s] w fun e w' => e = .returned (.string s) ∧ Below w.heap.size w w' := by
  go_enter Tryz.func31, Tryz.ntmps31
  go_wp2_with fail
  refine (Tryz.stringslite_Clone s _ hs).mono ?_
  rintro e w1 ⟨rfl, hb1⟩
  go_wp2_with fail
  go_ret
  exact ⟨rfl, hb1⟩

set_option maxHeartbeats 1000000 in
theorem number_ok (s : ByteArray) (at_ : Int) (w : World) (hd : run digR s.data.toList = s.data.toList.length) (h18 : s.size ≤ 18)
    (h0 : s.size ≤ 1 ∨ ∃ h : 1 < s.size, (((s[0]'(by omega)).toNat : Int) == 48) = false) :
    Calls Tryz.prog 118 #[.string s, .int .i64 at_] w fun e w' => e = .returned (.agg #[.int .i64 3, .string s, .int .i64 (numV s.data.toList), .int .i64 at_]) ∧ Below w.heap.size w w' := by
  have HD := Lib.hid hd
  clear hd
  rcases h0 with h0 | ⟨h1, h0⟩
  all_goals
    go_enter Tryz.func118, Tryz.ntmps118
    go_wp2_with fail
    refine (span_dig _ _).mono ?_
    rintro e w1 ⟨rfl, hb1⟩
    rw [HD.out]
    go_wp2_with fail
    go_loopw [5] (fun n wr => ∃ k : Nat, k ≤ s.size ∧ wr = w1.iter s k ∧ n = .int .i64 (numV (s.data.toList.take k))) (fun _ wr => s.size - wr.iterPos w1.heap.size)
    case atStart => exact ⟨0, Nat.zero_le _, rfl, rfl⟩
    case round =>
      obtain ⟨k, hk, rfl, rfl⟩ := hrel
      by_cases hlt : k < s.size
      · have hlen : k < s.data.toList.length := by simpa using hlt
        have hb : s.data.toList[k]'hlen = s[k] := by simp [ByteArray.getElem_eq_getElem_data]
        have hmem := dig_of digR _ HD.out (s.data.toList[k]'hlen) (List.getElem_mem hlen)
        have HS := Lib.hid (take_snoc s.data.toList k hlen)
        have hbd := numV_bd k (s.data.toList.take k) (by simp; omega) (fun c hc => dig_of digR _ HD.out c (List.mem_of_mem_take hc))
        have hp := pow_le17 k (by omega)
        rw [hb] at hmem HS
        have hd2 : 48 ≤ ((s[k]'hlt).toNat : Int) ∧ ((s[k]'hlt).toNat : Int) ≤ 57 := by simpa [digR] using hmem
        obtain ⟨hd3, hd4⟩ := hd2
        obtain ⟨hb3, hb4⟩ := hbd
        have hb5 : numV (s.data.toList.take k) ≤ 100000000000000000 := by omega
        clear hp hb4 hmem hb
        have hnx : ∀ ty, (Instr.next (.pointer (some ⟨w1.heap.size, 0, none⟩)) true ty).run Tryz.prog (w1.iter s k) = _ := fun ty => run_next_ascii w1 s k ty hlt (by omega)
        go_wp2_with fail
        go_roundw
        case rel =>
          refine ⟨k + 1, by omega, rfl, ?_⟩
          rw [HS.out, numV_snoc]
        case measure => simp; omega
      · have hnx : ∀ ty, (Instr.next (.pointer (some ⟨w1.heap.size, 0, none⟩)) true ty).run Tryz.prog (w1.iter s k) = _ := fun ty => run_next_end w1 s k ty hlt
        go_wp2_with fail
        refine (clone_any _ _ (by omega)).mono ?_
        rintro e w2 ⟨rfl, hb2⟩
        have hsz := hb1.size
        have hL : Lies w2 w.heap.size 71 #[.int .i64 0, .string ⟨#[]⟩, .int .i64 0, .int .i64 0] :=
          (((Lies.new w 71 _).below hb1 (by simp)).old (.stringIter s k)).below hb2 (by simp [World.iter] at hsz ⊢; omega)
        obtain ⟨⟨c0, c1, c2, c3⟩, f0, f1, f2, f3⟩ := hL.four
        have hB : Below w.heap.size w w2 := ((((Below.refl _ w).alloc (Nat.le_refl _) _).trans (hb1.mono (by simp))).alloc (by simp at hsz; omega) _).trans (hb2.mono (by simp [World.iter] at hsz ⊢; omega))
        have HT := Lib.hid (List.take_of_length_le (l := s.data.toList) (i := k) (by simp; omega))
        go_wp2_with fail
        exact bodyPost_ret (res_tok (p := 4) Tryz.results118 rfl (hL.all _ _ _ _)) rfl ⟨by rw [HT.out], Below.all hB (Nat.le_refl _) _ _ _ _⟩

theorem data_list (s : ByteArray) : s.toList = s.data.toList := by
  have := Lib.extract_toList s 0 s.size
  rw [ByteArray.extract_zero_size] at this
  rw [this]
  exact List.take_of_length_le (by show s.data.toList.length ≤ s.size; rw [Lib.size_eq]; exact Nat.le_refl _)
theorem below_ac {w w1 : World} {o : Obj} (hb : Below (w.alloc o).heap.size (w.alloc o) w1) : Below w.heap.size w w1 :=
  ((Below.refl _ w).alloc (Nat.le_refl _) _).trans (hb.mono (by simp))
/-- What the reader panics with. -/
def noTok (at_ e : Int) : Value := .iface 134 (.agg #[.int .i64 at_, .int .i64 e])
set_option maxHeartbeats 1000000 in
theorem number_char (s : ByteArray) (at_ : Int) (w : World) (hd : run digR s.data.toList < s.data.toList.length) :
    Calls Tryz.prog 118 #[.string s, .int .i64 at_] w fun e w' => e = .panicked [{ v := noTok at_ 10, recovered := false }] ∧ Below w.heap.size w w' := by
  have hd' : run digR s.data.toList < s.size := by simpa using hd
  clear hd
  unfold noTok
  go_enter Tryz.func118, Tryz.ntmps118
  go_wp2_with fail
  refine (span_dig _ _).mono ?_
  rintro e w1 ⟨rfl, hb1⟩
  go_wp2_with fail
  exact ⟨rfl, rfl, below_ac hb1⟩
set_option maxHeartbeats 1000000 in
theorem number_long (s : ByteArray) (at_ : Int) (w : World) (hd : run digR s.data.toList = s.data.toList.length)
    (h0 : 18 < s.size ∨ (s.size ≤ 18 ∧ ∃ h : 1 < s.size, (((s[0]'(by omega)).toNat : Int) == 48) = true)) :
    Calls Tryz.prog 118 #[.string s, .int .i64 at_] w fun e w' => e = .panicked [{ v := noTok at_ 11, recovered := false }] ∧ Below w.heap.size w w' := by
  have HD := Lib.hid hd
  clear hd
  unfold noTok
  rcases h0 with h0 | ⟨h18, h1, h0⟩
  all_goals
    go_enter Tryz.func118, Tryz.ntmps118
    go_wp2_with fail
    refine (span_dig _ _).mono ?_
    rintro e w1 ⟨rfl, hb1⟩
    rw [HD.out]
    go_wp2_with fail
    exact ⟨rfl, rfl, below_ac hb1⟩

theorem word_any (s : ByteArray) (w : World) : Calls Tryz.prog 119 #[.string s] w fun e w' => e = .returned (.bool (wordS s.data.toList)) ∧ w = w' := by
  go_enter Tryz.func119, Tryz.ntmps119
  go_wp2
  all_goals
    go_ret
    refine ⟨ret_bool ?_, rfl⟩
    rw [← data_list]
    simp_all [wordS]

theorem head_eq (s : ByteArray) (h : 0 < s.size) : s.data.toList.head? = some (s[0]'h) := by
  obtain ⟨⟨l⟩⟩ := s
  cases l with
  | nil => simp [ByteArray.size] at h
  | cons a r => rfl
theorem b48 (c : UInt8) : ((c.toNat : Int) == 48) = decide (c = 48) := by
  rw [Bool.eq_iff_iff]
  simp only [beq_iff_eq, decide_eq_true_eq]
  constructor
  · intro h; apply UInt8.toNat_inj.1; simp; omega
  · rintro rfl; rfl

theorem num_good (s : ByteArray) (at_ k n : Int) (w : World) (h : numK s.data.toList = .ok (k, n)) :
    Calls Tryz.prog 118 #[.string s, .int .i64 at_] w fun e w' => e = .returned (.agg #[.int .i64 k, .string s, .int .i64 n, .int .i64 at_]) ∧ Below w.heap.size w w' := by
  unfold numK at h
  have hr := run_le digR s.data.toList
  split at h
  · cases h
  · split at h
    · cases h
    · rename_i h1 h2
      simp only [Except.ok.injEq, Prod.mk.injEq] at h
      obtain ⟨rfl, rfl⟩ := h
      rw [← Lib.size_eq] at h2
      refine number_ok s at_ w (by omega) (by omega) ?_
      by_cases h3 : 1 < s.size
      · refine .inr ⟨h3, ?_⟩
        rw [b48, decide_eq_false]
        intro h4
        exact h2 (.inr ⟨h3, by rw [head_eq s (by omega), h4]⟩)
      · exact .inl (by omega)

theorem num_bad (s : ByteArray) (at_ x : Int) (w : World) (h : numK s.data.toList = .error x) :
    Calls Tryz.prog 118 #[.string s, .int .i64 at_] w fun e w' => e = .panicked [{ v := noTok at_ x, recovered := false }] ∧ Below w.heap.size w w' := by
  unfold numK at h
  have hr := run_le digR s.data.toList
  split at h
  · rename_i h1
    cases h
    exact number_char s at_ w h1
  · rename_i h1
    split at h
    · rename_i h2
      cases h
      rw [← Lib.size_eq] at h2
      refine number_long s at_ w (by omega) ?_
      by_cases h18 : 18 < s.size
      · exact .inl h18
      · obtain ⟨h3, h4⟩ : 1 < s.size ∧ s.data.toList.head? = some 48 := h2.resolve_left h18
        refine .inr ⟨by omega, h3, ?_⟩
        rw [head_eq s (by omega)] at h4
        rw [b48, decide_eq_true_eq]
        exact Option.some.inj h4
    · cases h

set_option maxHeartbeats 1000000 in
theorem run_num (s : ByteArray) (at_ k n : Int) (w : World) (h0 : 0 < run digR s.data.toList) (h : numK s.data.toList = .ok (k, n)) :
    Calls Tryz.prog 113 #[.string s, .int .i64 at_] w fun e w' => e = .returned (.agg #[.int .i64 k, .string s, .int .i64 n, .int .i64 at_]) ∧ Below w.heap.size w w' := by
  have HH := Lib.hid h
  clear h
  go_enter Tryz.func113, Tryz.ntmps113
  go_wp2_with fail
  refine (span_dig _ _).mono ?_
  rintro e w1 ⟨rfl, hb1⟩
  go_wp2_with fail
  refine (num_good s at_ k n _ HH.out).mono ?_
  rintro e w2 ⟨rfl, hb2⟩
  have hsz := hb1.size
  have hL : Lies w2 w.heap.size 71 #[.int .i64 0, .string ⟨#[]⟩, .int .i64 0, .int .i64 0] :=
    ((Lies.new w 71 _).below hb1 (by simp)).below hb2 (by simp at hsz ⊢; omega)
  obtain ⟨⟨c0, c1, c2, c3⟩, f0, f1, f2, f3⟩ := hL.four
  have hB : Below w.heap.size w w2 := (below_ac hb1).trans (hb2.mono (by simp at hsz ⊢; omega))
  go_wp2_with fail
  exact bodyPost_ret (res_tok (p := 4) Tryz.results113 rfl (hL.all _ _ _ _)) rfl ⟨rfl, Below.all hB (Nat.le_refl _) _ _ _ _⟩

set_option maxHeartbeats 1000000 in
theorem run_num_bad (s : ByteArray) (at_ x : Int) (w : World) (h0 : 0 < run digR s.data.toList) (h : numK s.data.toList = .error x) :
    Calls Tryz.prog 113 #[.string s, .int .i64 at_] w fun e w' => e = .panicked [{ v := noTok at_ x, recovered := false }] ∧ Below w.heap.size w w' := by
  have HH := Lib.hid h
  clear h
  go_enter Tryz.func113, Tryz.ntmps113
  go_wp2_with fail
  refine (span_dig _ _).mono ?_
  rintro e w1 ⟨rfl, hb1⟩
  go_wp2_with fail
  refine (num_bad s at_ x _ HH.out).mono ?_
  rintro e w2 ⟨rfl, hb2⟩
  have hsz := hb1.size
  have hB : Below w.heap.size w w2 := (below_ac hb1).trans (hb2.mono (by simp at hsz ⊢; omega))
  go_wp2_with fail
  exact ⟨rfl, rfl, hB⟩

set_option maxHeartbeats 1000000 in
theorem run_long (s : ByteArray) (at_ : Int) (w : World) (h0 : ¬ 0 < run digR s.data.toList) (h : 16 < s.size) :
    Calls Tryz.prog 113 #[.string s, .int .i64 at_] w fun e w' => e = .panicked [{ v := noTok at_ 11, recovered := false }] ∧ Below w.heap.size w w' := by
  unfold noTok
  go_enter Tryz.func113, Tryz.ntmps113
  go_wp2_with fail
  refine (span_dig _ _).mono ?_
  rintro e w1 ⟨rfl, hb1⟩
  go_wp2_with fail
  exact ⟨rfl, rfl, below_ac hb1⟩

set_option maxHeartbeats 1000000 in
theorem run_word (s : ByteArray) (at_ : Int) (w : World) (h0 : ¬ 0 < run digR s.data.toList) (h : s.size ≤ 16) (hw : wordS s.data.toList = true) :
    Calls Tryz.prog 113 #[.string s, .int .i64 at_] w fun e w' => e = .returned (.agg #[.int .i64 4, .string s, .int .i64 0, .int .i64 at_]) ∧ Below w.heap.size w w' := by
  have HW := Lib.hid hw
  clear hw
  go_enter Tryz.func113, Tryz.ntmps113
  go_wp2_with fail
  refine (span_dig _ _).mono ?_
  rintro e w1 ⟨rfl, hb1⟩
  go_wp2_with fail
  refine (word_any s _).mono ?_
  rintro e w' ⟨rfl, rfl⟩
  rw [HW.out]
  go_wp2_with fail
  refine (clone_any s _ (by omega)).mono ?_
  rintro e w2 ⟨rfl, hb2⟩
  have hsz := hb1.size
  have hL : Lies w2 w.heap.size 71 #[.int .i64 0, .string ⟨#[]⟩, .int .i64 0, .int .i64 0] :=
    ((Lies.new w 71 _).below hb1 (by simp)).below hb2 (by simp at hsz ⊢; omega)
  obtain ⟨⟨c0, c1, c2, c3⟩, f0, f1, f2, f3⟩ := hL.four
  have hB : Below w.heap.size w w2 := (below_ac hb1).trans (hb2.mono (by simp at hsz ⊢; omega))
  go_wp2_with fail
  exact bodyPost_ret (res_tok (p := 4) Tryz.results113 rfl (hL.all _ _ _ _)) rfl ⟨rfl, Below.all hB (Nat.le_refl _) _ _ _ _⟩

set_option maxHeartbeats 1000000 in
theorem run_name (s : ByteArray) (at_ k : Int) (w : World) (h0 : ¬ 0 < run digR s.data.toList) (h : s.size ≤ 16) (hw : wordS s.data.toList = false)
    (hk : (0 < run lowR s.data.toList ∧ k = 1) ∨ (¬ 0 < run lowR s.data.toList ∧ k = 2)) :
    Calls Tryz.prog 113 #[.string s, .int .i64 at_] w fun e w' => e = .returned (.agg #[.int .i64 k, .string s, .int .i64 0, .int .i64 at_]) ∧ Below w.heap.size w w' := by
  have HW := Lib.hid hw
  clear hw
  rcases hk with ⟨hk, rfl⟩ | ⟨hk, rfl⟩
  all_goals
    go_enter Tryz.func113, Tryz.ntmps113
    go_wp2_with fail
    refine (span_dig _ _).mono ?_
    rintro e w1 ⟨rfl, hb1⟩
    go_wp2_with fail
    refine (word_any s _).mono ?_
    rintro e w' ⟨rfl, rfl⟩
    rw [HW.out]
    go_wp2_with fail
    refine (span_low _ _).mono ?_
    rintro e w3 ⟨rfl, hb3⟩
    go_wp2_with fail
    refine (clone_any s _ (by omega)).mono ?_
    rintro e w2 ⟨rfl, hb2⟩
    have hsz := hb1.size
    have hsz3 := hb3.size
    have hL : Lies w2 w.heap.size 71 #[.int .i64 0, .string ⟨#[]⟩, .int .i64 0, .int .i64 0] :=
      (((Lies.new w 71 _).below hb1 (by simp)).below hb3 (by simp at hsz ⊢; omega)).below hb2 (by simp at hsz ⊢; omega)
    obtain ⟨⟨c0, c1, c2, c3⟩, f0, f1, f2, f3⟩ := hL.four
    have hB : Below w.heap.size w w2 := ((below_ac hb1).trans (hb3.mono (by simp at hsz ⊢; omega))).trans (hb2.mono (by simp at hsz ⊢; omega))
    go_wp2_with fail
    exact bodyPost_ret (res_tok (p := 4) Tryz.results113 rfl (hL.all _ _ _ _)) rfl ⟨rfl, Below.all hB (Nat.le_refl _) _ _ _ _⟩

theorem run_good (s : ByteArray) (at_ k n : Int) (w : World) (h : runK s.data.toList = .ok (k, n)) :
    Calls Tryz.prog 113 #[.string s, .int .i64 at_] w fun e w' => e = .returned (.agg #[.int .i64 k, .string s, .int .i64 n, .int .i64 at_]) ∧ Below w.heap.size w w' := by
  unfold runK at h
  split at h
  · rename_i h0
    exact run_num s at_ k n w h0 h
  · rename_i h0
    split at h
    · cases h
    · rename_i h1
      rw [← Lib.size_eq] at h1
      split at h
      · rename_i h2
        cases h
        exact run_word s at_ w h0 (by omega) h2
      · rename_i h2
        have h2' : wordS s.data.toList = false := by simpa using h2
        split at h
        · rename_i h3
          cases h
          exact run_name s at_ 1 w h0 (by omega) h2' (.inl ⟨h3, rfl⟩)
        · rename_i h3
          cases h
          exact run_name s at_ 2 w h0 (by omega) h2' (.inr ⟨h3, rfl⟩)
theorem run_bad (s : ByteArray) (at_ x : Int) (w : World) (h : runK s.data.toList = .error x) :
    Calls Tryz.prog 113 #[.string s, .int .i64 at_] w fun e w' => e = .panicked [{ v := noTok at_ x, recovered := false }] ∧ Below w.heap.size w w' := by
  unfold runK at h
  split at h
  · rename_i h0
    exact run_num_bad s at_ x w h0 h
  · rename_i h0
    split at h
    · rename_i h1
      rw [← Lib.size_eq] at h1
      cases h
      exact run_long s at_ w h0 h1
    · split at h
      · cases h
      · split at h <;> cases h
end Lx
end Go.Proofs.YtobdoahdjbmflaaGreatDoor
namespace Go.Proofs.YtobdoahdjbmflaaGreatDoor
open Go.RowKit
namespace Lx
set_option maxRecDepth 100000
/-- The cells of the package's table of signs. -/
def signCells : Array Value := (signsS.map fun g => Value.string ⟨g.toArray⟩).toArray
/-- The table of signs, in its variable. -/
def Signs (w : World) : Prop := ∃ t fr, w.heap[0]? = some (.cells signCells t fr)
theorem Signs.pos {w : World} (h : Signs w) : 0 < w.heap.size := by
  obtain ⟨t, fr, h⟩ := h
  exact (Array.getElem?_eq_some_iff.1 h).1
theorem Signs.below {w w' : World} {B : Nat} (h : Signs w) (hb : Below B w w') (hB : 0 < B) : Signs w' := by
  obtain ⟨t, fr, h⟩ := h
  exact ⟨t, fr, (hb.block 0 hB).trans h⟩
theorem sign_at (k : Nat) (h : k < 15) (w : World) : (Instr.index 140 (.agg signCells) (.int .i64 k)).run Tryz.prog w = .ok (.string ⟨(signsS.getD k []).toArray⟩) w := by
  have i0 : (Instr.index 140 (.agg signCells) (.int .i64 0)).run Tryz.prog w = .ok (.string ⟨(signsS.getD 0 []).toArray⟩) w := by kernel_rfl
  have i1 : (Instr.index 140 (.agg signCells) (.int .i64 1)).run Tryz.prog w = .ok (.string ⟨(signsS.getD 1 []).toArray⟩) w := by kernel_rfl
  have i2 : (Instr.index 140 (.agg signCells) (.int .i64 2)).run Tryz.prog w = .ok (.string ⟨(signsS.getD 2 []).toArray⟩) w := by kernel_rfl
  have i3 : (Instr.index 140 (.agg signCells) (.int .i64 3)).run Tryz.prog w = .ok (.string ⟨(signsS.getD 3 []).toArray⟩) w := by kernel_rfl
  have i4 : (Instr.index 140 (.agg signCells) (.int .i64 4)).run Tryz.prog w = .ok (.string ⟨(signsS.getD 4 []).toArray⟩) w := by kernel_rfl
  have i5 : (Instr.index 140 (.agg signCells) (.int .i64 5)).run Tryz.prog w = .ok (.string ⟨(signsS.getD 5 []).toArray⟩) w := by kernel_rfl
  have i6 : (Instr.index 140 (.agg signCells) (.int .i64 6)).run Tryz.prog w = .ok (.string ⟨(signsS.getD 6 []).toArray⟩) w := by kernel_rfl
  have i7 : (Instr.index 140 (.agg signCells) (.int .i64 7)).run Tryz.prog w = .ok (.string ⟨(signsS.getD 7 []).toArray⟩) w := by kernel_rfl
  have i8 : (Instr.index 140 (.agg signCells) (.int .i64 8)).run Tryz.prog w = .ok (.string ⟨(signsS.getD 8 []).toArray⟩) w := by kernel_rfl
  have i9 : (Instr.index 140 (.agg signCells) (.int .i64 9)).run Tryz.prog w = .ok (.string ⟨(signsS.getD 9 []).toArray⟩) w := by kernel_rfl
  have i10 : (Instr.index 140 (.agg signCells) (.int .i64 10)).run Tryz.prog w = .ok (.string ⟨(signsS.getD 10 []).toArray⟩) w := by kernel_rfl
  have i11 : (Instr.index 140 (.agg signCells) (.int .i64 11)).run Tryz.prog w = .ok (.string ⟨(signsS.getD 11 []).toArray⟩) w := by kernel_rfl
  have i12 : (Instr.index 140 (.agg signCells) (.int .i64 12)).run Tryz.prog w = .ok (.string ⟨(signsS.getD 12 []).toArray⟩) w := by kernel_rfl
  have i13 : (Instr.index 140 (.agg signCells) (.int .i64 13)).run Tryz.prog w = .ok (.string ⟨(signsS.getD 13 []).toArray⟩) w := by kernel_rfl
  have i14 : (Instr.index 140 (.agg signCells) (.int .i64 14)).run Tryz.prog w = .ok (.string ⟨(signsS.getD 14 []).toArray⟩) w := by kernel_rfl
  match k, h with
  | 0, _ => exact i0
  | 1, _ => exact i1
  | 2, _ => exact i2
  | 3, _ => exact i3
  | 4, _ => exact i4
  | 5, _ => exact i5
  | 6, _ => exact i6
  | 7, _ => exact i7
  | 8, _ => exact i8
  | 9, _ => exact i9
  | 10, _ => exact i10
  | 11, _ => exact i11
  | 12, _ => exact i12
  | 13, _ => exact i13
  | 14, _ => exact i14

theorem span_ld_from (s : ByteArray) (k : Nat) (w : World) : Calls Tryz.prog 109 #[.string (s.extract k s.size), .func (.func 112) #[] #[]] w fun e w' => e = .returned (.int .i64 (run ldR (s.data.toList.drop k))) ∧ Below w.heap.size w w' := by
  have h := span_ld (s.extract k s.size) w
  rw [Lib.extract_to_end] at h
  exact h

def SignPost (l : List UInt8) (at_ : Int) (e : Ending) : Prop :=
  (∀ g, signOf l = some g → e = .returned (.agg #[.int .i64 5, .string ⟨g.toArray⟩, .int .i64 0, .int .i64 at_])) ∧
  (signOf l = none → e = .panicked [{ v := noTok at_ 10, recovered := false }])

theorem prefix_from (s : ByteArray) (k m : Nat) (w : World) : Calls Tryz.prog 114 #[.string (s.extract k s.size), .string ⟨(signsS.getD m []).toArray⟩] w fun e w' =>
    e = .returned (.bool (Lib.hasPrefix (s.data.toList.drop k) (signsS.getD m []))) ∧ w = w' := by
  refine (Tryz.strings_HasPrefix _ _ w).mono ?_
  rintro e w' ⟨rfl, rfl⟩
  rw [Lib.extract_to_end]
  exact ⟨rfl, rfl⟩

set_option maxHeartbeats 1000000 in
theorem token_sign (s : ByteArray) (k : Nat) (w : World) (hk : k ≤ s.size) (hg : Signs w) (h0 : ¬ 0 < run ldR (s.data.toList.drop k)) :
    Calls Tryz.prog 111 #[.string s, .int .i64 k] w fun e w' => SignPost (s.data.toList.drop k) k e ∧ Below w.heap.size w w' := by
  have hpos := hg.pos
  go_enter Tryz.func111, Tryz.ntmps111
  go_wp2_with fail
  refine (span_ld_from _ _ _).mono ?_
  rintro e w1 ⟨rfl, hb1⟩
  have hg1 : Signs w1 := (hg.below ((Below.refl _ w).alloc (Nat.le_refl _) _) hpos).below hb1 (by simp)
  obtain ⟨tt, fr, hg1'⟩ := hg1
  have hL : Lies w1 w.heap.size 71 #[.int .i64 0, .string ⟨#[]⟩, .int .i64 0, .int .i64 0] := (Lies.new w 71 _).below hb1 (by simp)
  have hB : Below w.heap.size w w1 := below_ac hb1
  clear hb1 hg
  go_wp2_with (refine wpList_load_row rfl 140 _ rfl 0 rfl tt _ fr _ hg1' Tryz.underlying140 rfl (by kernel_rfl) ?_)
  clear hg1'
  go_loop [22] (fun v => ∃ m : Nat, m ≤ 15 ∧ v = .int .i64 m ∧ Hid (∀ j, j < m → Lib.hasPrefix (s.data.toList.drop k) (signsS.getD j []) = false)) (fun v => 15 - (intOf v).toNat)
  case atStart => exact ⟨0, by omega, rfl, fun j hj => by omega⟩
  case round =>
    obtain ⟨m, hm, rfl, HF⟩ := hrel
    by_cases hlt : m < 15
    · have hix := sign_at m hlt w1
      cases hp : Lib.hasPrefix (s.data.toList.drop k) (signsS.getD m [])
      · have HP := Lib.hid hp
        clear hp
        go_wp2_with fail
        refine (prefix_from _ _ _ _).mono ?_
        rintro e w' ⟨rfl, rfl⟩
        rw [HP.out]
        go_wp2_with fail
        go_round
        case rel =>
          refine ⟨m + 1, by omega, by go_num, fun j hj => ?_⟩
          rcases Nat.lt_or_ge j m with h1 | h1
          · exact HF.out j h1
          · obtain rfl : j = m := by omega
            exact HP.out
        case measure => simp [intOf]; omega
      · have HP := Lib.hid hp
        clear hp
        obtain ⟨⟨c0, c1, c2, c3⟩, f0, f1, f2, f3⟩ := hL.four
        go_wp2_with fail
        refine (prefix_from _ _ _ _).mono ?_
        rintro e w' ⟨rfl, rfl⟩
        rw [HP.out]
        go_wp2_with fail
        refine bodyPost_ret (res_tok (p := 4) Tryz.results111 rfl (hL.all _ _ _ _)) rfl ⟨⟨fun g hg => ?_, fun hg => ?_⟩, Below.all hB (Nat.le_refl _) _ _ _ _⟩
        · have := find_first (fun g => Lib.hasPrefix (s.data.toList.drop k) g) [] signsS m hlt HF.out HP.out
          unfold signOf at hg
          rw [this] at hg
          rw [← Option.some.inj hg, List.getD_eq_getElem?_getD]
        · have := find_first (fun g => Lib.hasPrefix (s.data.toList.drop k) g) [] signsS m hlt HF.out HP.out
          unfold signOf at hg
          rw [this] at hg
          cases hg
    · go_wp2_with fail
      refine ⟨rfl, ⟨fun g hg => ?_, fun hg => rfl⟩, hB⟩
      have := find_none (fun g => Lib.hasPrefix (s.data.toList.drop k) g) [] signsS (fun j hj => HF.out j (by have h15 : signsS.length = 15 := rfl; omega))
      unfold signOf at hg
      rw [this] at hg
      cases hg

theorem toBytes (s : ByteArray) : (⟨s.data.toList.toArray⟩ : ByteArray) = s := by
  cases s; simp
theorem cut_twice (s : ByteArray) (k n : Nat) : ((s.extract k s.size).extract 0 n).data.toList = (s.data.toList.drop k).take n := by
  rw [Lib.extract_data, Lib.extract_to_end]
  simp
theorem cut_eq (s : ByteArray) (k n : Nat) : (s.extract k s.size).extract 0 n = ⟨((s.data.toList.drop k).take n).toArray⟩ := by
  rw [← cut_twice, toBytes]

set_option maxHeartbeats 1000000 in
theorem token_run (s : ByteArray) (k : Nat) (kd n : Int) (w : World) (hk : k ≤ s.size) (h0 : 0 < run ldR (s.data.toList.drop k)) (h : runK ((s.data.toList.drop k).take (run ldR (s.data.toList.drop k))) = .ok (kd, n)) :
    Calls Tryz.prog 111 #[.string s, .int .i64 k] w fun e w' =>
      e = .returned (.agg #[.int .i64 kd, .string ⟨((s.data.toList.drop k).take (run ldR (s.data.toList.drop k))).toArray⟩, .int .i64 n, .int .i64 k]) ∧ Below w.heap.size w w' := by
  have hle := run_le ldR (s.data.toList.drop k)
  have hle2 : run ldR (s.data.toList.drop k) ≤ s.size - k := by simpa using hle
  clear hle
  have HR := fun w => run_good ((s.extract k s.size).extract 0 (run ldR (s.data.toList.drop k))) k kd n w (by rw [cut_twice]; exact h)
  have HH := Lib.hid HR
  clear HR h
  go_enter Tryz.func111, Tryz.ntmps111
  go_wp2_with fail
  refine (span_ld_from _ _ _).mono ?_
  rintro e w1 ⟨rfl, hb1⟩
  go_wp2_with fail
  refine (HH.out _).mono ?_
  rintro e w2 ⟨rfl, hb2⟩
  have hsz := hb1.size
  have hL : Lies w2 w.heap.size 71 #[.int .i64 0, .string ⟨#[]⟩, .int .i64 0, .int .i64 0] :=
    ((Lies.new w 71 _).below hb1 (by simp)).below hb2 (by simp at hsz ⊢; omega)
  obtain ⟨⟨c0, c1, c2, c3⟩, f0, f1, f2, f3⟩ := hL.four
  have hB : Below w.heap.size w w2 := (below_ac hb1).trans (hb2.mono (by simp at hsz ⊢; omega))
  go_wp2_with fail
  exact bodyPost_ret (res_tok (p := 4) Tryz.results111 rfl (hL.all _ _ _ _)) rfl ⟨by rw [cut_eq], Below.all hB (Nat.le_refl _) _ _ _ _⟩

set_option maxHeartbeats 1000000 in
theorem token_run_bad (s : ByteArray) (k : Nat) (x : Int) (w : World) (hk : k ≤ s.size) (h0 : 0 < run ldR (s.data.toList.drop k)) (h : runK ((s.data.toList.drop k).take (run ldR (s.data.toList.drop k))) = .error x) :
    Calls Tryz.prog 111 #[.string s, .int .i64 k] w fun e w' => e = .panicked [{ v := noTok k x, recovered := false }] ∧ Below w.heap.size w w' := by
  have hle := run_le ldR (s.data.toList.drop k)
  have hle2 : run ldR (s.data.toList.drop k) ≤ s.size - k := by simpa using hle
  clear hle
  have HR := fun w => run_bad ((s.extract k s.size).extract 0 (run ldR (s.data.toList.drop k))) k x w (by rw [cut_twice]; exact h)
  have HH := Lib.hid HR
  clear HR h
  go_enter Tryz.func111, Tryz.ntmps111
  go_wp2_with fail
  refine (span_ld_from _ _ _).mono ?_
  rintro e w1 ⟨rfl, hb1⟩
  go_wp2_with fail
  refine (HH.out _).mono ?_
  rintro e w2 ⟨rfl, hb2⟩
  have hsz := hb1.size
  have hB : Below w.heap.size w w2 := (below_ac hb1).trans (hb2.mono (by simp at hsz ⊢; omega))
  go_wp2_with fail
  exact ⟨rfl, rfl, hB⟩

theorem token_good (s : ByteArray) (k : Nat) (kd n : Int) (t : List UInt8) (w : World) (hk : k ≤ s.size) (hg : Signs w) (h : tokK (s.data.toList.drop k) = .ok (kd, n, t)) :
    Calls Tryz.prog 111 #[.string s, .int .i64 k] w fun e w' => e = .returned (.agg #[.int .i64 kd, .string ⟨t.toArray⟩, .int .i64 n, .int .i64 k]) ∧ Below w.heap.size w w' := by
  unfold tokK at h
  split at h
  · rename_i h0
    split at h
    · rename_i k' n' h1
      simp only [Except.ok.injEq, Prod.mk.injEq] at h
      obtain ⟨rfl, rfl, rfl⟩ := h
      exact token_run s k _ _ w hk h0 h1
    · cases h
  · rename_i h0
    split at h
    · rename_i g h1
      simp only [Except.ok.injEq, Prod.mk.injEq] at h
      obtain ⟨rfl, rfl, rfl⟩ := h
      refine (token_sign s k w hk hg h0).mono ?_
      rintro e w' ⟨he, hb⟩
      exact ⟨he.1 _ h1, hb⟩
    · cases h
theorem token_bad (s : ByteArray) (k : Nat) (x : Int) (w : World) (hk : k ≤ s.size) (hg : Signs w) (h : tokK (s.data.toList.drop k) = .error x) :
    Calls Tryz.prog 111 #[.string s, .int .i64 k] w fun e w' => e = .panicked [{ v := noTok k x, recovered := false }] ∧ Below w.heap.size w w' := by
  unfold tokK at h
  split at h
  · rename_i h0
    split at h
    · cases h
    · rename_i e1 h1
      cases h
      exact token_run_bad s k _ w hk h0 h1
  · rename_i h0
    split at h
    · cases h
    · rename_i h1
      cases h
      refine (token_sign s k w hk hg h0).mono ?_
      rintro e w' ⟨he, hb⟩
      exact ⟨he.2 h1, hb⟩
end Lx
end Go.Proofs.YtobdoahdjbmflaaGreatDoor
