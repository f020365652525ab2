/-
  A region that makes an empty row, appends a row to it, makes a row of one, and appends that: the one row is made ahead of the others, between them or behind them.
-/
import Derived.Test.YtnljlocogfacfaaDoorBox
import Derived.Test.YtnljlocogfacfaaDoorHeldK
import Derived.Test.YtnljlocogfacfaaDoorTwoX
import Derived.Deep.AppendLies
namespace Go.Proofs.YtnljlocogfacfaaDoor
open Go.RowKit
namespace Lx
set_option maxRecDepth 100000
section
variable {P : Program} {ops : Array Oper} {Q : Exit → Act → World → Prop} {md : Region.Mode} {S : World → Prop}
theorem wpOp_plain {i : Nat} {o : Oper} {K : Act → World → Prop} {a : Act} {w : World} (ho : ops[i]? = some o) (hg : o.guard = none)
    (h : ∀ K' : Act → World → Prop, Hid (∀ a w, K a w → K' a w) → o.wp P a w K' Q) : wpOp P ops Q i K a w := by
  refine wpOp_step ho fun K' hK => ?_
  rw [if_pos (by simp [Region.wanted, hg])]
  exact h K' (Lib.hid hK)
/-- Nothing is appended. -/
theorem wp_append_none {o : Oper} {a : Act} {w : World} {K : Act → World → Prop} (s x : Operand) (t : TypeId)
    (ho : o.op = .call { callee := .builtin .append, args := #[s, x], argTypes := #[t, t] })
    (base : Nat) (e : TypeId) (i : TypeInfo) (size : Nat) (ht : P.underlying t = some (.slice e)) (hi : P.info? e = some i)
    (v : Value) (n : Nat) (xs : List Value) (hs : a.eval s = v) (hown : w.ownsRow base e size v n xs) (hx : a.eval x = .slice none 0 0) (h : K (a.put o.dst v) w) : o.wp P a w K Q := by
  have hr := run_append_owned_none (P := P) w base t o.type e i size ht hi v n xs hown
  unfold Oper.wp execOp
  simp only [ho, resolve, invoke, builtin, Sem.run_bind, Sem.run_pure, Result.andThen_ok, List.map_toArray, List.map_cons, List.map_nil, hs, hx, hr]
  exact h
def L9 (p0 p3 p5 : Bool) : Array Bool := #[p0, true, true, p3, true, p5, false, false, false]
def rd9 (p0 p3 p5 : Bool) : List Nat := (if p0 then (if p3 then [] else [3]) else [0]) ++ (if p5 then [] else [5])
def n9 (p0 p3 p5 : Bool) : Nat := (if p0 then 0 else 1) + (if p3 then 0 else 1) + (if p5 then 0 else 1)
theorem nine {St : Bool → Bool → Bool → Act → World → Prop}
    (hr : ∀ p0 p3 p5, (p3 = true → p0 = true) → n9 p0 p3 p5 ≠ 0 → Region.ready md ops (L9 p0 p3 p5) = rd9 p0 p3 p5)
    (hS : ∀ p0 p3 p5 a w, St p0 p3 p5 a w → S w)
    (h0 : ∀ p5 a w, St false false p5 a w → wpOp P ops Q 0 (St true false p5) a w)
    (h3 : ∀ p5 a w, St true false p5 a w → wpOp P ops Q 3 (St true true p5) a w)
    (h5 : ∀ p0 p3 a w, St p0 p3 false a w → wpOp P ops Q 5 (St p0 p3 true) a w)
    (hE : ∀ a w, St true true true a w → wpAnyK P md ops Q S 8 3 #[true, true, true, true, true, true, false, false, false] a w) :
    ∀ (n : Nat) (p0 p3 p5 : Bool) (a : Act) (w : World), n9 p0 p3 p5 = n → (p3 = true → p0 = true) → St p0 p3 p5 a w → wpAnyK P md ops Q S 8 (3 + n) (L9 p0 p3 p5) a w := by
  intro n
  induction n with
  | zero =>
    intro p0 p3 p5 a w hn hp h
    cases p0 <;> cases p3 <;> cases p5 <;> simp [n9] at hn
    exact hE a w h
  | succ n ih =>
    intro p0 p3 p5 a w hn hp h
    have hr' := hr p0 p3 p5 hp (by omega)
    refine ⟨fun h0 => ?_, fun i hi => ?_⟩
    · rw [hr'] at h0
      cases p0 <;> cases p3 <;> cases p5 <;> simp [n9, rd9] at hn h0
    · rw [hr'] at hi
      have hset : ∀ q0 q3 q5 a' w', (L9 p0 p3 p5).setIfInBounds i true = L9 q0 q3 q5 → n9 q0 q3 q5 = n → (q3 = true → q0 = true) → St q0 q3 q5 a' w' → (i ≠ 8 → S w') ∧ wpAnyK P md ops Q S 8 (3 + n) ((L9 p0 p3 p5).setIfInBounds i true) a' w' :=
        fun q0 q3 q5 a' w' he hn' hp' h' => ⟨fun _ => hS _ _ _ _ _ h', by rw [he]; exact ih q0 q3 q5 a' w' hn' hp' h'⟩
      have hi' : (i = 0 ∧ p0 = false ∧ p3 = false) ∨ (i = 3 ∧ p0 = true ∧ p3 = false) ∨ (i = 5 ∧ p5 = false) := by
        cases p0 <;> cases p3 <;> cases p5 <;> simp [rd9] at hi hp ⊢ <;> omega
      rcases hi' with ⟨rfl, rfl, rfl⟩ | ⟨rfl, rfl, rfl⟩ | ⟨rfl, rfl⟩
      · exact wpOp_mono (fun a' w' h' => hset true false p5 a' w' (by simp [L9]) (by simp [n9] at hn ⊢; omega) (by simp) h') (h0 p5 a w h)
      · exact wpOp_mono (fun a' w' h' => hset true true p5 a' w' (by simp [L9]) (by simp [n9] at hn ⊢; omega) (by simp) h') (h3 p5 a w h)
      · exact wpOp_mono (fun a' w' h' => hset p0 p3 true a' w' (by simp [L9]) (by simp [n9] at hn ⊢; omega) hp h') (h5 p0 p3 a w h)
end
def a9 (a0 : Act) (u58 u61 u63 : Value) : Act := ((a0.put (some 58) u58).put (some 61) u61).put (some 63) u63
theorem a9_63 (a0 : Act) (u58 u61 u63 v : Value) : (a9 a0 u58 u61 u63).put (some 63) v = a9 a0 u58 u61 v := put_put _ _ _ _
theorem a9_61 (a0 : Act) (u58 u61 u63 v : Value) : (a9 a0 u58 u61 u63).put (some 61) v = a9 a0 u58 v u63 := by
  rw [a9, put_far (d := 63) (e := 61) _ (by decide), put_put]; rfl
theorem a9_58 (a0 : Act) (u58 u61 u63 v : Value) : (a9 a0 u58 u61 u63).put (some 58) v = a9 a0 v u61 u63 := by
  rw [a9, put_far (d := 63) (e := 58) _ (by decide), put_far (d := 61) (e := 58) _ (by decide), put_put]; rfl
/-- What stands when these have come up. -/
structure St9 (a0 : Act) (w8 : World) (i : Nat) (xs cs : List Value) (p0 p3 p5 : Bool) (a : Act) (V : World) : Prop where
  bw : Below w8.heap.size w8 V
  ex : ∃ u58 u61 u63, a = a9 a0 u58 u61 u63 ∧
    (p0 = true → p3 = false → ∃ g, u58 = .slice (some ⟨g, 0, none⟩) 0 0 ∧ V.ownsRow w8.heap.size 33 5 u58 0 []) ∧
    (p3 = true → ∃ g c, u61 = .slice (some ⟨g, 0, none⟩) i c ∧ V.ownsRow w8.heap.size 33 5 u61 i xs) ∧
    (p5 = true → ∃ g, u63 = .slice (some ⟨g, 0, none⟩) 1 1 ∧ w8.heap.size ≤ g ∧ Lies V g 33 cs.toArray ∧ (p0 = true → p3 = false → u58.ownBlock ≠ some g) ∧ (p3 = true → u61.ownBlock ≠ some g))
section
variable {a0 a : Act} {w8 V : World} {i : Nat} {xs cs : List Value} {p0 p3 p5 : Bool}
theorem St9.h0 (h : St9 a0 w8 i xs cs false false p5 a V) : St9 a0 w8 i xs cs true false p5 (a.put (some 58) (.slice (some ⟨V.heap.size, 0, none⟩) 0 0)) (V.alloc (.cells #[] 33)) := by
  obtain ⟨hb, u58, u61, u63, rfl, h1, h2, h3⟩ := h
  refine ⟨hb.alloc hb.size _, _, u61, u63, a9_58 _ _ _ _ _, fun _ _ => ⟨_, rfl, World.ownsRow_made V #[] 0 hb.size (by simp [maxLen]) rfl⟩, fun hp => (by cases hp), fun hp => ?_⟩
  obtain ⟨g, e, hg, hL, _⟩ := h3 hp
  exact ⟨g, e, hg, hL.old _, fun _ _ e => by have := hL.lt; have e9 := Option.some.inj e; simp at e9; omega, fun hp => (by cases hp)⟩
theorem St9.h5 (h : St9 a0 w8 i xs cs p0 p3 false a V) : St9 a0 w8 i xs cs p0 p3 true (a.put (some 63) (.slice (some ⟨V.heap.size, 0, none⟩) 1 1)) (V.alloc (.cells cs.toArray 33)) := by
  obtain ⟨hb, u58, u61, u63, rfl, h1, h2, h3⟩ := h
  refine ⟨hb.alloc hb.size _, u58, u61, _, a9_63 _ _ _ _ _, fun h h' => ?_, fun h => ?_, fun _ => ⟨_, rfl, hb.size, Lies.new V _ _, fun h h' e => ?_, fun h e => ?_⟩⟩
  · obtain ⟨g, e, ho⟩ := h1 h h'
    exact ⟨g, e, ho.alloc _⟩
  · obtain ⟨g, c, e, ho⟩ := h2 h
    exact ⟨g, c, e, ho.alloc _⟩
  · obtain ⟨g, _, ho⟩ := h1 h h'
    have := (ho.lt _ e).2
    omega
  · obtain ⟨g, c, _, ho⟩ := h2 h
    have := (ho.lt _ e).2
    omega
/-- The row was appended to the empty one. -/
theorem St9.h3 (h : St9 a0 w8 i xs cs true false p5 a V) {u58 : Value} (hu : ∃ u61 u63, a = a9 a0 u58 u61 u63 ∧ (p5 = true → ∃ g, u63 = .slice (some ⟨g, 0, none⟩) 1 1 ∧ w8.heap.size ≤ g ∧ Lies V g 33 cs.toArray ∧ u58.ownBlock ≠ some g)) (hown0 : V.ownsRow w8.heap.size 33 5 u58 0 [])
    {V' : World} {g c : Nat} (hown : V'.ownsRow w8.heap.size 33 5 (.slice (some ⟨g, 0, none⟩) i c) i xs) (hg : V.grownBy V' u58.ownBlock) (hat : u58.ownBlock = some g ∨ g = V.heap.size) :
    St9 a0 w8 i xs cs true true p5 (a.put (some 61) (.slice (some ⟨g, 0, none⟩) i c)) V' := by
  obtain ⟨u61, u63, rfl, h3⟩ := hu
  refine ⟨h.bw.grown hg h.bw.size (fun q hq => (hown0.lt q hq).1), u58, _, u63, a9_61 _ _ _ _ _, fun _ h => (by cases h), fun _ => ⟨g, c, rfl, hown⟩, fun hp => ?_⟩
  obtain ⟨g', e, hg', hL, hne⟩ := h3 hp
  refine ⟨g', e, hg', hL.grown hg (fun e => hne e.symm), fun _ h => (by cases h), fun _ e => ?_⟩
  have e9 : g = g' := Option.some.inj e
  rcases hat with h | h
  · exact hne (by rw [h, e9])
  · have := hL.lt; omega
/-- As the row is appended to the empty one. -/
theorem St9.at3 (h : St9 a0 w8 i xs cs true false p5 a V) : ∃ g, (∃ u61 u63, a = a9 a0 (.slice (some ⟨g, 0, none⟩) 0 0) u61 u63) ∧ V.ownsRow w8.heap.size 33 5 (.slice (some ⟨g, 0, none⟩) 0 0) 0 [] ∧
    ∀ V' g' c, V'.ownsRow w8.heap.size 33 5 (.slice (some ⟨g', 0, none⟩) i c) i xs → V.grownBy V' (some g) → (some g = some g' ∨ g' = V.heap.size) → St9 a0 w8 i xs cs true true p5 (a.put (some 61) (.slice (some ⟨g', 0, none⟩) i c)) V' := by
  have h' := h
  obtain ⟨hb, u58, u61, u63, rfl, h1, h2, h3⟩ := h
  obtain ⟨g, rfl, ho⟩ := h1 rfl rfl
  exact ⟨g, ⟨u61, u63, rfl⟩, ho, fun V' g' c hown hg hat => h'.h3 ⟨u61, u63, rfl, fun hp => (h3 hp).elim fun g9 h => ⟨g9, h.1, h.2.1, h.2.2.1, h.2.2.2.1 rfl rfl⟩⟩ ho hown hg hat⟩
/-- The region, from where its loads have come up. -/
theorem nine_two {P : Program} {ops : Array Oper} {Q : Exit → Act → World → Prop} {md : Region.Mode} {S : World → Prop} {a0 : Act} {w8 : World} (i : Nat) (xs cs : List Value)
    (h00 : a9 a0 undef undef undef = a0)
    (hr : ∀ p0 p3 p5, (p3 = true → p0 = true) → n9 p0 p3 p5 ≠ 0 → Region.ready md ops (L9 p0 p3 p5) = rd9 p0 p3 p5)
    (hS : ∀ V, Below w8.heap.size w8 V → S V)
    (h0 : ∀ p5 a w, St9 a0 w8 i xs cs false false p5 a w → wpOp P ops Q 0 (St9 a0 w8 i xs cs true false p5) a w)
    (h3 : ∀ p5 a w, St9 a0 w8 i xs cs true false p5 a w → wpOp P ops Q 3 (St9 a0 w8 i xs cs true true p5) a w)
    (h5 : ∀ p0 p3 a w, St9 a0 w8 i xs cs p0 p3 false a w → wpOp P ops Q 5 (St9 a0 w8 i xs cs p0 p3 true) a w)
    (hE : ∀ a w, St9 a0 w8 i xs cs true true true a w → wpAnyK P md ops Q S 8 3 #[true, true, true, true, true, true, false, false, false] a w) :
    wpAnyK P md ops Q S 8 6 #[false, true, true, false, true, false, false, false, false] a0 w8.drew :=
  nine (St := St9 a0 w8 i xs cs) hr (fun _ _ _ _ _ h => hS _ h.bw) h0 h3 h5 hE 3 false false false a0 w8.drew rfl (by simp)
    ⟨(Below.refl _ w8).drew, undef, undef, undef, h00.symm, by simp, by simp, by simp⟩
end
end Lx
end Go.Proofs.YtnljlocogfacfaaDoor
