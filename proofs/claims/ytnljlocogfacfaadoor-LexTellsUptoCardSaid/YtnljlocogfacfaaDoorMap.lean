/-
  The map of shapes, and what is looked up in it.
-/
import Derived.Test.YtnljlocogfacfaaDoorMayL
import Derived.Maps.Own
namespace Go.Proofs.YtnljlocogfacfaaDoor
open Go.RowKit
namespace Lx
set_option maxRecDepth 100000
theorem run_insert_new {P : Program} (W : World) (t kt et : TypeId) (b clock : Nat) (es : Array MapEntry) (k : Int) (val : Value) (hm : P.underlying t = some (.map kt et)) (hk : P.underlying kt = some (.int .i64)) (hb : W.heap[b]? = some (.map es clock))
    (hf : Instr.findNow (.int .i64) (.int .i64 k) es.toList 0 = some none) :
    (Instr.mapUpdate t (.map (some b)) (.int .i64 k) val).run P W = .ok () { W with heap := W.heap.setIfInBounds b (.map (es.push { key := .int .i64 k, val := val, born := clock }) (clock + 1)) } := by
  have hc : (Instr.checkKey false 10000 kt (.int .i64 k)).run P W = .ok () W := MapKept.run_checkKey (k := .int .i64 k) hk (by simp [MapKept.IsKey]) false 9999
  simp [Instr.mapUpdate, run_underlying hm, MapKept.run_getObj_map hb, hc, MapKept.run_findKey hk hf, MapKept.run_setObj_map _ hb, Result.andThen]
theorem wpList_insert_new {P : Program} {ops : Array Oper} {rest : List Oper} {o : Oper} {a : Act} {Q : Exit → Act → World → Prop} {W : World} (hgd : o.guard = none) (m x v : Operand) (t kt et : TypeId) (hop : o.op = .insert t m x v)
    (hm : P.underlying t = some (.map kt et)) (hk : P.underlying kt = some (.int .i64)) (b clock : Nat) (es : Array MapEntry) (k : Int) (val : Value) (em : a.eval m = .map (some b)) (ex : a.eval x = .int .i64 k) (ev : a.eval v = val)
    (hb : W.heap[b]? = some (.map es clock)) (hf : Instr.findNow (.int .i64) (.int .i64 k) es.toList 0 = some none)
    (h : ∀ W', W'.heap[b]? = some (.map (es.push { key := .int .i64 k, val := val, born := clock }) (clock + 1)) → Below b W W' → wpList P ops Q rest (a.put o.dst undef) W') : wpList P ops Q (o :: rest) a W := by
  have hlt := (Array.getElem?_eq_some_iff.1 hb).1
  refine wpList_plain hgd fun K hK => ?_
  unfold Oper.wp execOp
  simp only [hop, em, ex, ev, Sem.run_bind, Sem.run_pure, run_insert_new W t kt et b clock es k val hm hk hb hf, Result.andThen_ok]
  refine hK _ _ (h _ (by simp [hlt]) ⟨rfl, rfl, rfl, by simp, fun i hi => ?_⟩)
  simp [Array.getElem?_setIfInBounds_ne (by omega : b ≠ i)]
/-- The entries of the map of shapes. -/
def shapesE : Array MapEntry := #[{ key := .int .i64 1, val := .agg #[.int .i64 1, .int .i64 0, .int .i64 0, .int .i64 0], born := 0 }, { key := .int .i64 2, val := .agg #[.int .i64 1, .int .i64 0, .int .i64 1, .int .i64 1], born := 1 }, { key := .int .i64 3, val := .agg #[.int .i64 0, .int .i64 0, .int .i64 2, .int .i64 2], born := 2 }, { key := .int .i64 4, val := .agg #[.int .i64 1, .int .i64 0, .int .i64 2, .int .i64 2], born := 3 }, { key := .int .i64 5, val := .agg #[.int .i64 1, .int .i64 0, .int .i64 2, .int .i64 2], born := 4 }, { key := .int .i64 6, val := .agg #[.int .i64 2, .int .i64 0, .int .i64 0, .int .i64 8], born := 5 }, { key := .int .i64 7, val := .agg #[.int .i64 0, .int .i64 0, .int .i64 2, .int .i64 9], born := 6 }, { key := .int .i64 8, val := .agg #[.int .i64 2, .int .i64 8, .int .i64 1, .int .i64 9], born := 7 }, { key := .int .i64 9, val := .agg #[.int .i64 0, .int .i64 999999999999999999, .int .i64 0, .int .i64 0], born := 8 }, { key := .int .i64 10, val := .agg #[.int .i64 3, .int .i64 0, .int .i64 2, .int .i64 2], born := 9 }]
/-- Block b is the map of shapes. -/
def MapAt (w : World) (b : Nat) : Prop := w.heap[b]? = some (.map shapesE 10)
theorem MapAt.lt {w : World} {b : Nat} (h : MapAt w b) : b < w.heap.size := (Array.getElem?_eq_some_iff.1 h).1
theorem MapAt.below {w w' : World} {b B : Nat} (h : MapAt w b) (hb : Below B w w') (hB : b < B) : MapAt w' b := (hb.block b hB).trans h
theorem MapAt.old {w : World} {b : Nat} (h : MapAt w b) (o : Obj) : MapAt (w.alloc o) b := (Below.heap_alloc w o b h.lt).trans h
set_option maxHeartbeats 2000000 in
theorem shapes_any (w : World) : Calls Tryd.prog 45 #[] w fun e w' => e = .returned (.map (some w.heap.size)) ∧ MapAt w' w.heap.size ∧ Below w.heap.size w w' := by
  have hmm := @run_makeMap Tryd.prog
  have h0 : (w.alloc (.map #[] 0)).heap[w.heap.size]? = some (.map #[] 0) := heap_alloc_new w _
  go_enter Tryd.func45, Tryd.ntmps45
  go_wp2_with (first
    | (refine wpList_insert_new rfl _ (.const (.int .i64 1)) _ 70 _ _ rfl Tryd.underlying70 Tryd.underlying3 w.heap.size _ _ 1 _ rfl rfl rfl h0 (by rfl) ?_; intro w1 h1 b1)
    | (refine wpList_insert_new rfl _ (.const (.int .i64 2)) _ 70 _ _ rfl Tryd.underlying70 Tryd.underlying3 w.heap.size _ _ 2 _ rfl rfl rfl h1 (by rfl) ?_; intro w2 h2 b2)
    | (refine wpList_insert_new rfl _ (.const (.int .i64 3)) _ 70 _ _ rfl Tryd.underlying70 Tryd.underlying3 w.heap.size _ _ 3 _ rfl rfl rfl h2 (by rfl) ?_; intro w3 h3 b3)
    | (refine wpList_insert_new rfl _ (.const (.int .i64 4)) _ 70 _ _ rfl Tryd.underlying70 Tryd.underlying3 w.heap.size _ _ 4 _ rfl rfl rfl h3 (by rfl) ?_; intro w4 h4 b4)
    | (refine wpList_insert_new rfl _ (.const (.int .i64 5)) _ 70 _ _ rfl Tryd.underlying70 Tryd.underlying3 w.heap.size _ _ 5 _ rfl rfl rfl h4 (by rfl) ?_; intro w5 h5 b5)
    | (refine wpList_insert_new rfl _ (.const (.int .i64 6)) _ 70 _ _ rfl Tryd.underlying70 Tryd.underlying3 w.heap.size _ _ 6 _ rfl rfl rfl h5 (by rfl) ?_; intro w6 h6 b6)
    | (refine wpList_insert_new rfl _ (.const (.int .i64 7)) _ 70 _ _ rfl Tryd.underlying70 Tryd.underlying3 w.heap.size _ _ 7 _ rfl rfl rfl h6 (by rfl) ?_; intro w7 h7 b7)
    | (refine wpList_insert_new rfl _ (.const (.int .i64 8)) _ 70 _ _ rfl Tryd.underlying70 Tryd.underlying3 w.heap.size _ _ 8 _ rfl rfl rfl h7 (by rfl) ?_; intro w8 h8 b8)
    | (refine wpList_insert_new rfl _ (.const (.int .i64 9)) _ 70 _ _ rfl Tryd.underlying70 Tryd.underlying3 w.heap.size _ _ 9 _ rfl rfl rfl h8 (by rfl) ?_; intro w9 h9 b9)
    | (refine wpList_insert_new rfl _ (.const (.int .i64 10)) _ 70 _ _ rfl Tryd.underlying70 Tryd.underlying3 w.heap.size _ _ 10 _ rfl rfl rfl h9 (by rfl) ?_; intro w10 h10 b10))
  go_ret
  have hB := (((((((((((Below.refl _ w).alloc (Nat.le_refl _) (.map #[] 0)).trans b1).trans b2).trans b3).trans b4).trans b5).trans b6).trans b7).trans b8).trans b9).trans b10
  exact ⟨rfl, h10, hB⟩

/-- What is looked up in the map of shapes. -/
def lookV (k : Int) : Value := match shapeV k with
  | some (a, b, c, d) => .tuple #[.agg #[.int .i64 a, .int .i64 b, .int .i64 c, .int .i64 d], .bool true]
  | none => .tuple #[.agg #[.int .i64 0, .int .i64 0, .int .i64 0, .int .i64 0], .bool false]
theorem zeroS (w : World) : (zeroValue 85).run Tryd.prog w = .ok (.agg #[.int .i64 0, .int .i64 0, .int .i64 0, .int .i64 0]) w := by kernel_rfl
theorem run_lookup_hit (W : World) (b k : Nat) (j : Int) (v : Value) (hb : MapAt W b) (hf : Instr.findNow (.int .i64) (.int .i64 j) shapesE.toList 0 = some (some (k, v))) :
    (Instr.lookup 70 (.map (some b)) (.int .i64 j) true).run Tryd.prog W = .ok (.tuple #[v, .bool true]) W := by
  have hc : (Instr.checkKey shapesE.isEmpty 10000 3 (.int .i64 j)).run Tryd.prog W = .ok () W := MapKept.run_checkKey (k := .int .i64 j) Tryd.underlying3 (by simp [MapKept.IsKey]) _ 9999
  simp [Instr.lookup, run_underlying Tryd.underlying70, MapKept.run_getObj_map hb, hc, MapKept.run_findKey Tryd.underlying3 hf, Result.andThen]
theorem run_lookup_miss (W : World) (b : Nat) (j : Int) (hb : MapAt W b) (hf : Instr.findNow (.int .i64) (.int .i64 j) shapesE.toList 0 = some none) :
    (Instr.lookup 70 (.map (some b)) (.int .i64 j) true).run Tryd.prog W = .ok (.tuple #[.agg #[.int .i64 0, .int .i64 0, .int .i64 0, .int .i64 0], .bool false]) W := by
  have hc : (Instr.checkKey shapesE.isEmpty 10000 3 (.int .i64 j)).run Tryd.prog W = .ok () W := MapKept.run_checkKey (k := .int .i64 j) Tryd.underlying3 (by simp [MapKept.IsKey]) _ 9999
  simp [Instr.lookup, run_underlying Tryd.underlying70, MapKept.run_getObj_map hb, hc, MapKept.run_findKey Tryd.underlying3 hf, Result.andThen]
theorem find_miss (j : Int) (h : j < 1 ∨ 10 < j) : Instr.findNow (.int .i64) (.int .i64 j) shapesE.toList 0 = some none := by
  have e : ∀ i : Int, 1 ≤ i → i ≤ 10 → (j == i) = false := fun i h1 h2 => by simp; omega
  simp [shapesE, Instr.findNow, Instr.sameNow, e 1, e 2, e 3, e 4, e 5, e 6, e 7, e 8, e 9, e 10]
theorem run_look (W : World) (b : Nat) (j : Int) (hb : MapAt W b) : (Instr.lookup 70 (.map (some b)) (.int .i64 j) true).run Tryd.prog W = .ok (lookV j) W := by
  rcases (by omega : j = 1 ∨ j = 2 ∨ j = 3 ∨ j = 4 ∨ j = 5 ∨ j = 6 ∨ j = 7 ∨ j = 8 ∨ j = 9 ∨ j = 10 ∨ (j < 1 ∨ 10 < j)) with rfl | rfl | rfl | rfl | rfl | rfl | rfl | rfl | rfl | rfl | h
  case inr.inr.inr.inr.inr.inr.inr.inr.inr.inr =>
    rw [run_lookup_miss W b j hb (find_miss j h)]
    have e : shapeV j = none := by
      have e : ∀ i : Int, 1 ≤ i → i ≤ 10 → j ≠ i := by omega
      simp [shapeV, e 1, e 2, e 3, e 4, e 5, e 6, e 7, e 8, e 9, e 10]
    rw [lookV, e]
  all_goals exact run_lookup_hit W b _ _ _ hb rfl
end Lx
end Go.Proofs.YtnljlocogfacfaaDoor
