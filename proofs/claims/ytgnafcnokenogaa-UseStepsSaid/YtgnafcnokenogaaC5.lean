/-
  Texts that lie one behind the other: UsI UsR UsC UsO UsL.
-/
import Derived.Test.YtgnafcnokenogaaC4
import Derived.Test.YtgnafcnokenogaaC3
import Derived.Sort.Grow
namespace Go.Proofs.Ytgnafcnokenogaa
open Go Go.RowKit
attribute [local go_sem] Oper.semAt_some
namespace Lx
set_option maxRecDepth 100000
theorem run_store_fn {P : Program} {w : World} {a : Addr} {m : Mode} (f : Fn) (x y : Array Value) : (store a (.func f x y) m).run P w = stored P w a (.func f x y) m := run_store P w a _ m rfl
attribute [local go_sem] run_store_fn
section
variable {l M T Yb bm : Nat} {full : List Int} {J Jx : List Int → (Nat → Prop) → World → Prop} {X : Nat → Prop}
theorem thr_any (hA : Asks l full J Jx) (d : Nat) : ∀ (t : Te) (A : Option Addr) (c : Nat) (b : Int) (N : Nat) (C : Int → Int) (pre : List Int) (Z : Nat → Prop) (W : World), ThrPre l M T Yb bm full J X t A d b N C pre Z W →
    Calls Try.prog 31 (thrArgs M T Yb (ev t A c) b) W (ThrPost l M T Yb bm full J Jx t b N C pre Z W) := by
  induction d with
  | zero => intro t A c b N C pre Z W h; have := depthE_pos t; have := h.dep; omega
  | succ d ih =>
    intro t A c b N C pre Z W h
    obtain ⟨k, n, s, lst⟩ := t
    by_cases hk : k = 1
    · subst hk
      have ht := h.tame
      rw [tameE] at ht
      obtain rfl := (ht.1 rfl).2.2
      exact thr_var hA (d + 1) n s A c b N C pre Z W h
    · cases lst with
      | nil => exact thr_leaf hA (d + 1) k n s A c b N C pre Z W hk h
      | cons t0 r => exact thr_node hA d ih k n s t0 r A c b N C pre Z W hk h
set_option maxHeartbeats 4000000 in
/-- The iterator over uses. -/
theorem usesI_any (bx : Nat) (t : Te) (A : Option Addr) (c : Nat) (Z : Nat → Prop) (W : World) (hA : Asks l (ofE t).reverse J Jx) (hd : depthE t ≤ 4000) (hs : sizeE t ≤ 1000000000000) (ht : tameE 1099511627776 1099511627776 t)
    (L : Lies W bx 24 #[.int .i64 t.kind, .int .i64 t.n, .string t.name, .slice A t.parts.length (capF t.parts.length c)]) (hI : EIn W X t A) (hX : ∀ g, X g → g < W.heap.size ∧ ¬ Z g) (hJ : J [] Z W) :
    Calls Try.prog 30 #[.func (.yield l) #[] #[], .pointer (some ⟨bx, 0, none⟩)] W fun e W' => (∃ v, e = .returned v) ∧ ∃ (r : Bool) (Z' : Nat → Prop), Gz No Z W Z' W' ∧ (r = true → J (ofE t).reverse Z' W') ∧ (r = false → ∃ q, q <+: (ofE t).reverse ∧ Jx q Z' W') := by
  obtain ⟨R, hR⟩ : ∃ R : Ending → World → Prop, R = fun e W' => (∃ v, e = .returned v) ∧ ∃ (r : Bool) (Z' : Nat → Prop), Gz No Z W Z' W' ∧ (r = true → J (ofE t).reverse Z' W') ∧ (r = false → ∃ q, q <+: (ofE t).reverse ∧ Jx q Z' W') := ⟨_, rfl⟩
  rw [← hR]
  have c0 := L.four
  obtain ⟨w1, hw1⟩ : ∃ w1, w1 = (((W.alloc (.cells #[.func (.yield l) #[] #[]] 46)).alloc (.map #[] 0)).alloc (.cells #[.map (some (W.heap.size + 1))] 47)).alloc (.cells #[.func (.func 31) #[] #[.pointer (some ⟨W.heap.size + 2, 0, none⟩), .pointer (some ⟨W.heap.size + 3, 0, none⟩), .pointer (some ⟨W.heap.size, 0, none⟩)]] 26) := ⟨_, rfl⟩
  have hG : Gz No No W No w1 := by rw [hw1]; exact ((((Gz.refl _ _ _).alloc _).alloc _).alloc _).alloc _
  have hZ : ∀ q, W.heap.size ≤ q → ¬ Z q := fun q hq h => by have := hA.lt _ _ _ hJ _ h; omega
  have hT : Hid (Calls Try.prog 31 #[.agg #[.int .i64 t.kind, .int .i64 t.n, .string t.name, .slice A t.parts.length (capF t.parts.length c)], .int .i64 0, .pointer (some ⟨W.heap.size + 2, 0, none⟩), .pointer (some ⟨W.heap.size + 3, 0, none⟩), .pointer (some ⟨W.heap.size, 0, none⟩)] w1 fun e W' => ∃ r : Bool, e = .returned (.bool r) ∧ R (.returned (.tuple #[])) W') := Lib.hid (by
    refine (thr_any (M := W.heap.size + 2) (T := W.heap.size + 3) (Yb := W.heap.size) (bm := W.heap.size + 1) (X := X) hA (depthE t) t A c 0 0 (fun _ => 0) [] Z w1
      { dep := Nat.le_refl _, dep4 := hd, siz := by omega, tame := ht, b0 := by omega, b1 := by omega
        lies := EIn.gz t hI hG fun g _ => ⟨fun h => h, fun h => h⟩
        mapi := by
          rw [hw1]
          have h1 := MapIs.made (W.alloc (.cells #[.func (.yield l) #[] #[]] 46))
          rw [World.size_alloc] at h1
          have h2 := h1.heap (Below.heap_alloc _ (.cells #[.map (some (W.heap.size + 1))] 47) _ h1.lt)
          exact h2.heap (Below.heap_alloc _ _ _ h2.lt)
        cbd := fun v => by simp
        held := by
          rw [hw1]
          refine ⟨?_, ?_, ?_⟩
          · exact ((lies_next _ _ _ _ (by simp)).old _ : Lies _ _ _ _).cell 0
          · exact (lies_next _ _ _ _ (by simp) : Lies _ _ _ _).cell 0
          · exact ((((Lies.new _ _ _).old _).old _).old _ : Lies _ _ _ _).cell 0
        asks := hA.own hJ hG fun _ _ h => h
        offX := fun g hg => ⟨by have := (hX g hg).1; have := hG.size; omega, (hX g hg).2, by have := (hX g hg).1; omega⟩
        offM := fun q hq => ⟨hZ q (by omega), by omega⟩
        offB := hZ _ (by omega)
        pref := List.prefix_rfl }).mono ?_
    rintro e W' ⟨r, Z', rfl, hg, h1, h2⟩
    refine ⟨r, rfl, ?_⟩
    rw [hR]
    refine ⟨⟨_, rfl⟩, r, Z', hG.any.tail hg fun i hi e => by omega, fun h => ?_, h2⟩
    simpa using (h1 h).2)
  have HW : Hid (w1 = _) := Lib.hid hw1
  have hRv : ∀ v W', R (.returned (.tuple #[])) W' → R (.returned v) W' := fun v W' h => by rw [hR] at h ⊢; exact ⟨⟨_, rfl⟩, h.2⟩
  have HRV := Lib.hid hRv
  clear hA hJ hI hX hG hZ L hR hRv hw1
  have hmm := @run_makeMap Try.prog
  go_enter Try.func30, Try.ntmps30
  go_upto_region 2 with fail
  obtain ⟨V3, hV3⟩ : ∃ V3, V3 = ((W.alloc (.cells #[.func (.yield l) #[] #[]] 46)).alloc (.map #[] 0)).alloc (.cells #[.map (some (W.heap.size + 1))] 47) := ⟨_, rfl⟩
  have hs3 : V3.heap.size = W.heap.size + 3 := by rw [hV3]; simp
  have hbx3 : ∀ i v, W.cell? ⟨bx, i, none⟩ = some v → V3.cell? ⟨bx, i, none⟩ = some v := fun i v hc => (World.cell?_of_block (by rw [hV3]; exact (Below.heap_alloc _ _ _ (by have := World.block_lt_of_cell? W _ hc; simp at this ⊢; omega)).trans ((Below.heap_alloc _ _ _ (by have := World.block_lt_of_cell? W _ hc; simp at this ⊢; omega)).trans (Below.heap_alloc _ _ _ (World.block_lt_of_cell? W _ hc))))).trans hc
  rw [← hV3]
  have HV3 := Lib.hid hV3
  have HS3 := Lib.hid hs3
  have HB3 := Lib.hid hbx3
  have HC0 := Lib.hid c0
  have L4 := Lies.new V3 26 #[.nilFunc]
  have x0 : (V3.alloc (.cells #[.nilFunc] 26)).cell? ⟨V3.heap.size, 0, none⟩ = some .nilFunc := L4.cell 0
  have x1 : (V3.alloc (.cells #[.nilFunc] 26)).frozen? ⟨V3.heap.size, 0, none⟩ = false := L4.frozen 0
  have HL4 := Lib.hid L4
  clear hV3 hs3 hbx3 c0 L4
  go_upto_region 4 with fail
  have hW1 : V3.alloc (.cells #[.func (.func 31) #[] #[.pointer (some ⟨W.heap.size + 1 + 1, 0, none⟩), .pointer (some ⟨V3.heap.size, 0, none⟩), .pointer (some ⟨W.heap.size, 0, none⟩)]] 26) = w1 := by
    rw [HW.out, HV3.out]
    simp
  have y0 : w1.cell? ⟨V3.heap.size, 0, none⟩ = some (.func (.func 31) #[] #[.pointer (some ⟨W.heap.size + 1 + 1, 0, none⟩), .pointer (some ⟨V3.heap.size, 0, none⟩), .pointer (some ⟨W.heap.size, 0, none⟩)]) := by
    rw [← hW1]; exact (Lies.new _ _ _ : Lies _ _ _ _).cell 0
  have hbw : ∀ i v, W.cell? ⟨bx, i, none⟩ = some v → w1.cell? ⟨bx, i, none⟩ = some v := fun i v hc => by
    rw [← hW1]
    have h3 := HB3.out i v hc
    exact (World.cell?_of_block (Below.heap_alloc _ _ _ (World.block_lt_of_cell? V3 _ h3))).trans h3
  have c0a := hbw 0 _ HC0.out.1.1
  have c0b := hbw 1 _ HC0.out.1.2.1
  have c0c := hbw 2 _ HC0.out.1.2.2.1
  have c0d := hbw 3 _ HC0.out.1.2.2.2
  rw [hW1]
  rw [show V3.heap.size = W.heap.size + 1 + 1 + 1 from HS3.out] at y0 ⊢
  clear hW1 hbw x0 x1 HB3 HV3 HW HL4
  go_wp2_with (refine hT.out.mono ?_; rintro e w9 ⟨r, rfl, hr⟩)
  go_end0
  exact HRV.out _ _ hr
end
end Lx
end Go.Proofs.Ytgnafcnokenogaa
namespace Go.Proofs.Ytgnafcnokenogaa
open Go Go.RowKit
attribute [local go_sem] Oper.semAt_some
namespace Lx
set_option maxRecDepth 100000
/-- What a body stands on, between two rounds and once it has left: blocks of Z alone. -/
structure Stands (I : List Int → (Nat → Prop) → World → Prop) : Prop where
  frame : ∀ pre Z A B, I pre Z A → A.heap.size ≤ B.heap.size → (∀ k, Z k → B.heap[k]? = A.heap[k]?) → I pre Z B
  lt : ∀ pre Z A, I pre Z A → ∀ k, Z k → k < A.heap.size
/-- How a body may be left. -/
def ownQ (I Ix : List Int → (Nat → Prop) → World → Prop) (xs : List Int) (Z : Nat → Prop) (V : World) : Exit → Act → World → Prop
  | .normal, _, V' => ∃ Z', Gz No Z V Z' V' ∧ I xs Z' V'
  | .ret, _, V' => ∃ Z', Gz No Z V Z' V' ∧ Ix xs Z' V'
  | _, _, _ => False
def withL (Z : Nat → Prop) (D : Nat) : Nat → Prop := fun k => Z k ∨ k = D ∨ k = D + 1
theorem uses_range {n : Nat} {Q : Exit → Act → World → Prop} {g : Operand} {ps : Array Tmp} {assign body : Code} {a : Act} {w : World} (bx : Nat) (t : Te) (A : Option Addr) (c : Nat) {X : Nat → Prop} {Z0 : Nat → Prop} {I Ix : List Int → (Nat → Prop) → World → Prop}
    (hg : a.eval g = .func (.func 30) #[] #[.pointer (some ⟨bx, 0, none⟩)]) (hps : ps.size = 1)
    (hI : Stands I) (hIx : Stands Ix) (hd : depthE t ≤ 4000) (hs : sizeE t ≤ 1000000000000) (ht : tameE 1099511627776 1099511627776 t)
    (L : Lies w bx 24 #[.int .i64 t.kind, .int .i64 t.n, .string t.name, .slice A t.parts.length (capF t.parts.length c)]) (hE : EIn w X t A) (hX : ∀ q, X q → q < w.heap.size ∧ ¬ Z0 q) (h0 : I [] Z0 w)
    (a₁ : Int → Act) (hassign : ∀ (l : Nat) (x : Int) (U : World) (K : Act → World → Prop), K (a₁ x) U →
      assign.wpIn (Fence.wide.inRound l) n Try.prog (Exit.then K (fun _ _ _ => False)) { tmps := (ps.zip #[Value.int .i64 x]).foldl (fun t (p, v) => t.setIfInBounds p v) a.tmps, defers := [] } U)
    (hbody : ∀ (l : Nat) (pre : List Int) (x : Int) (Z : Nat → Prop) (V : World), w.heap.size ≤ V.heap.size → I pre Z V → pre ++ [x] <+: (ofE t).reverse → body.wpIn (Fence.wide.inRound l) n Try.prog (ownQ I Ix (pre ++ [x]) Z V) (a₁ x) V)
    (hdone : ∀ (D : Nat) (Z : Nat → Prop) (V : World), w.heap.size ≤ D → D < V.heap.size → ¬ Z D → Gz No Z0 w (withL Z D) V → I (ofE t).reverse Z V → V.heap[D]? = some (.deferred (some [])) → Q .normal { a with defers := markOf D :: a.defers } V)
    (hstop : ∀ (D : Nat) (Z : Nat → Prop) (V : World) (q : List Int), w.heap.size ≤ D → D < V.heap.size → ¬ Z D → q <+: (ofE t).reverse → Gz No Z0 w (withL Z D) V → Ix q Z V → V.heap[D]? = some (.deferred (some [])) → Q .ret { a with defers := markOf D :: a.defers } V) :
    (Code.rangeFunc g ps assign body).wpIn Fence.wide n Try.prog Q a w := by
  refine range_rec hg (enters_of Try.func30 (by kernel_rfl) rfl) (fun fn rec hrec => ?_)
  obtain ⟨D, hD⟩ : ∃ D, D = w.heap.size := ⟨_, rfl⟩
  rw [← hD] at hrec ⊢
  obtain ⟨V2, hV2⟩ : ∃ V2, V2 = (w.alloc (.deferred (some []))).alloc (.loop (rec .ready none)) := ⟨_, rfl⟩
  have hG2 : Gz No No w No V2 := by rw [hV2]; exact ((Gz.refl _ _ _).alloc _).alloc _
  have hs2 : V2.heap.size = D + 2 := by rw [hV2]; simp [hD]
  have hl2 : V2.heap[D + 1]? = some (.loop (rec .ready none)) := by
    rw [hV2]
    have := World.alloc_heap_new (w.alloc (.deferred (some []))) (.loop (rec .ready none))
    rwa [World.size_alloc, ← hD] at this
  have hd2 : V2.heap[D]? = some (.deferred (some [])) := by
    rw [hV2]
    have := World.alloc_heap_new w (.deferred (some []))
    rw [← hD] at this
    exact (Below.heap_alloc _ _ _ (by simp [hD])).trans this
  have hZ0 : ∀ k, Z0 k → k < D := fun k hk => by have := hI.lt _ _ _ h0 k hk; omega
  rw [← hV2]
  let J : List Int → (Nat → Prop) → World → Prop := fun pre Zf U => ∃ Z, Zf = withL Z D ∧ ¬ Z D ∧ ¬ Z (D + 1) ∧ U.heap[D]? = some (.deferred (some [])) ∧ U.heap[D + 1]? = some (.loop (rec .ready none)) ∧ I pre Z U
  let Jx : List Int → (Nat → Prop) → World → Prop := fun pre Zf U => ∃ Z, Zf = withL Z D ∧ ¬ Z D ∧ ¬ Z (D + 1) ∧ U.heap[D]? = some (.deferred (some [])) ∧ U.heap[D + 1]? = some (.loop (rec .done (some .ret))) ∧ Ix pre Z U
  have hA : Asks (D + 1) (ofE t).reverse J Jx := by
    refine ⟨?_, ?_, ?_, ?_, ?_⟩
    · rintro pre Zf A B ⟨Z, rfl, z1, z2, hd, hl, hi⟩ hsz hk
      exact ⟨Z, rfl, z1, z2, (hk D (.inr (.inl rfl))).trans hd, (hk (D + 1) (.inr (.inr rfl))).trans hl, hI.frame _ _ _ _ hi hsz fun k hz => hk k (.inl hz)⟩
    · rintro pre Zf A B ⟨Z, rfl, z1, z2, hd, hl, hi⟩ hsz hk
      exact ⟨Z, rfl, z1, z2, (hk D (.inr (.inl rfl))).trans hd, (hk (D + 1) (.inr (.inr rfl))).trans hl, hIx.frame _ _ _ _ hi hsz fun k hz => hk k (.inl hz)⟩
    · rintro pre Zf A ⟨Z, rfl, z1, z2, hd, hl, hi⟩ k hk
      have h1 := (Array.getElem?_eq_some_iff.1 hl).1
      rcases hk with hk | hk | hk
      · exact hI.lt _ _ _ hi k hk
      · omega
      · omega
    · rintro pre Zf A ⟨Z, rfl, z1, z2, hd, hl, hi⟩ k hk
      have h1 := (Array.getElem?_eq_some_iff.1 hl).1
      rcases hk with hk | hk | hk
      · exact hIx.lt _ _ _ hi k hk
      · omega
      · omega
    · rintro pre x Zf U ⟨Z, rfl, z1, z2, hd, hl, hi⟩ hpre
      have hlt := (Array.getElem?_eq_some_iff.1 hl).1
      refine YieldAt.depth (m := n) (yield_rec hrec hl (by simp [hps]) ?_)
      refine hassign (D + 1) x U _ ⟨hl, ?_⟩
      obtain ⟨V, hV⟩ : ∃ V, V = U.putObj (D + 1) (.loop (rec .busy none)) := ⟨_, rfl⟩
      rw [← hV]
      have hlV : V.heap[D + 1]? = some (.loop (rec .busy none)) := by rw [hV]; exact World.putObj_heap_same hlt
      have hdV : V.heap[D]? = some (.deferred (some [])) := by rw [hV]; exact (World.putObj_heap_other (by omega)).trans hd
      have hsV : V.heap.size = U.heap.size := by rw [hV]; exact World.putObj_size
      have hkV : ∀ k, k ≠ D + 1 → V.heap[k]? = U.heap[k]? := fun k hk => by rw [hV]; exact World.putObj_heap_other hk
      have hoV : V.os = U.os ∧ V.tape = U.tape ∧ V.output = U.output := by rw [hV]; exact ⟨rfl, rfl, rfl⟩
      have hiV : I pre Z V := hI.frame _ _ _ _ hi (by omega) fun k hz => hkV k (fun e => z2 (e ▸ hz))
      refine wpIn_mono (hbody (D + 1) pre x Z V (by omega) hiV hpre) ?_
      have fin : ∀ (Z' : Nat → Prop) (V' : World) (st : LoopState) (pe : Option Code), Gz No Z V Z' V' → V'.heap[D + 1]? = some (.loop (rec .busy none)) ∧ ¬ Z' D ∧ ¬ Z' (D + 1) ∧ Gz No (withL Z D) U (withL Z' D) (V'.putObj (D + 1) (.loop (rec st pe))) ∧
          (V'.putObj (D + 1) (.loop (rec st pe))).heap[D]? = some (.deferred (some [])) ∧ (V'.putObj (D + 1) (.loop (rec st pe))).heap[D + 1]? = some (.loop (rec st pe)) := by
        intro Z' V' st pe hG
        have hsz := hG.size
        have z3 := hG.not (k := D) (by omega) z1
        have z4 := hG.not (k := D + 1) (by omega) z2
        refine ⟨hG.heap hlV z2 (fun h => h), z3, z4, ⟨hG.os.trans hoV.1, hG.tape.trans hoV.2.1, hG.output.trans hoV.2.2, by rw [World.putObj_size]; omega, fun k hk hz _ => ?_, fun k hz => ?_⟩, (World.putObj_heap_other (by omega)).trans (hG.heap hdV z1 (fun h => h)), World.putObj_heap_same (by omega)⟩
        · have hne : k ≠ D + 1 := fun e => hz (.inr (.inr e))
          exact (World.putObj_heap_other hne).trans ((hG.same k (by omega) (fun h => hz (.inl h)) (fun h => h)).trans (hkV k hne))
        · rcases hz with hz | hz | hz
          · rcases hG.ext k hz with h | h
            · exact .inl (.inl h)
            · exact .inr (by omega)
          · exact .inl (.inr (.inl hz))
          · exact .inl (.inr (.inr hz))
      intro e a3 V' hp
      cases e with
      | normal =>
        obtain ⟨Z', hG, hi'⟩ := hp
        obtain ⟨f1, z3, z4, f2, f3, f4⟩ := fin Z' V' .ready none hG
        refine ⟨f1, true, withL Z' D, rfl, f2, fun _ => ⟨Z', rfl, z3, z4, f3, f4, ?_⟩, (fun h => by cases h)⟩
        exact hI.frame _ _ _ _ hi' (by rw [World.putObj_size]; exact Nat.le_refl _) fun k hz => World.putObj_heap_other (fun e => z4 (e ▸ hz))
      | ret =>
        obtain ⟨Z', hG, hi'⟩ := hp
        obtain ⟨f1, z3, z4, f2, f3, f4⟩ := fin Z' V' .done (some .ret) hG
        refine ⟨f1, false, withL Z' D, rfl, f2, (fun h => by cases h), fun _ => ⟨Z', rfl, z3, z4, f3, f4, ?_⟩⟩
        exact hIx.frame _ _ _ _ hi' (by rw [World.putObj_size]; exact Nat.le_refl _) fun k hz => World.putObj_heap_other (fun e => z4 (e ▸ hz))
      | exit id => exact hp.elim
      | goto t => exact hp.elim
      | panic c => exact hp.elim
      | outgrown => exact hp.elim
  have hJ0 : J [] (withL Z0 D) V2 := ⟨Z0, rfl, fun h => by have := hZ0 _ h; omega, fun h => by have := hZ0 _ h; omega, hd2, hl2, hI.frame _ _ _ _ h0 hG2.size fun k hk => hG2.same k (by have := hZ0 k hk; omega) (fun h => h) (fun h => h)⟩
  refine (usesI_any (X := X) bx t A c (withL Z0 D) V2 hA hd hs ht (hG2.lies L (fun h => h) (fun h => h)) (EIn.gz t hE hG2 fun q _ => ⟨fun h => h, fun h => h⟩) (fun q hq => ⟨by have := (hX q hq).1; omega, fun h => by
    rcases h with h | h | h
    · exact (hX q hq).2 h
    · have := (hX q hq).1; omega
    · have := (hX q hq).1; omega⟩) hJ0).mono ?_
  rintro e V ⟨hv, r, Zf, hG, h1, h2⟩
  refine ⟨hv, ?_⟩
  have hWV : Gz No Z0 w Zf V := ⟨hG.os.trans hG2.os, hG.tape.trans hG2.tape, hG.output.trans hG2.output, by have := hG.size; omega,
    fun k hk hz _ => (hG.same k (by omega) (fun h => by rcases h with h | h | h; exact hz h; omega; omega) (fun h => h)).trans (hG2.same k (by omega) (fun h => h) (fun h => h)),
    fun k hz => by rcases hG.ext k hz with (h | h | h) | h
                   · exact .inl h
                   · exact .inr (by omega)
                   · exact .inr (by omega)
                   · exact .inr (by omega)⟩
  cases r
  · obtain ⟨q, hq, Z, rfl, z1, z2, hd, hl, hi⟩ := h2 rfl
    have hlt := (Array.getElem?_eq_some_iff.1 hl).1
    refine .inr ⟨hl, hstop D Z _ q (by omega) (by rw [World.putObj_size]; omega) z1 hq (hWV.put _ (.inl (by omega))) ?_ ((World.putObj_heap_other (by omega)).trans hd)⟩
    exact hIx.frame _ _ _ _ hi (by rw [World.putObj_size]; exact Nat.le_refl _) fun k hz => World.putObj_heap_other (fun e => z2 (e ▸ hz))
  · obtain ⟨Z, rfl, z1, z2, hd, hl, hi⟩ := h1 rfl
    have hlt := (Array.getElem?_eq_some_iff.1 hl).1
    refine .inl ⟨hl, hdone D Z _ (by omega) (by rw [World.putObj_size]; omega) z1 (hWV.put _ (.inl (by omega))) ?_ ((World.putObj_heap_other (by omega)).trans hd)⟩
    exact hI.frame _ _ _ _ hi (by rw [World.putObj_size]; exact Nat.le_refl _) fun k hz => World.putObj_heap_other (fun e => z2 (e ▸ hz))
end Lx
end Go.Proofs.Ytgnafcnokenogaa
namespace Go.Proofs.Ytgnafcnokenogaa
open Go Go.RowKit
attribute [local go_sem] Oper.semAt_some
namespace Lx
set_option maxRecDepth 100000
attribute [local go_sem] wide_fn wide_depth
def fansL : List Int → Int
  | [] => 0
  | x :: r => max (x - 1) 0 + fansL r
def dropsL : List Int → Int
  | [] => 0
  | x :: r => (if x = 0 then 1 else 0) + dropsL r
theorem fansL_snoc (l : List Int) (x : Int) : fansL (l ++ [x]) = fansL l + max (x - 1) 0 := by
  induction l with
  | nil => simp [fansL]
  | cons a r ih => simp only [List.cons_append, fansL, ih]; omega
theorem dropsL_snoc (l : List Int) (x : Int) : dropsL (l ++ [x]) = dropsL l + (if x = 0 then 1 else 0) := by
  induction l with
  | nil => simp [dropsL]
  | cons a r ih => simp only [List.cons_append, dropsL, ih]; omega
theorem fansL_app (l m : List Int) : fansL (l ++ m) = fansL l + fansL m := by
  induction l with
  | nil => simp [fansL]
  | cons a r ih => simp only [List.cons_append, fansL, ih]; omega
theorem dropsL_app (l m : List Int) : dropsL (l ++ m) = dropsL l + dropsL m := by
  induction l with
  | nil => simp [dropsL]
  | cons a r ih => simp only [List.cons_append, dropsL, ih]; omega
theorem fansL_rev (l : List Int) : fansL l.reverse = fansL l := by
  induction l with
  | nil => rfl
  | cons a r ih => rw [List.reverse_cons, fansL_app, ih]; simp only [fansL]; omega
theorem dropsL_rev (l : List Int) : dropsL l.reverse = dropsL l := by
  induction l with
  | nil => rfl
  | cons a r ih => rw [List.reverse_cons, dropsL_app, ih]; simp only [dropsL]; omega
theorem fansL_bound {M : Int} (hM : 0 ≤ M) : ∀ l : List Int, (∀ x ∈ l, x ≤ M) → 0 ≤ fansL l ∧ fansL l ≤ l.length * M
  | [], _ => by simp [fansL]
  | x :: r, h => by
    have h1 := fansL_bound hM r fun y hy => h y (by simp [hy])
    have h2 := h x (by simp)
    simp only [fansL, List.length_cons]
    have : ((r.length + 1 : Nat) : Int) * M = (r.length : Int) * M + M := by rw [Int.natCast_add, Int.add_mul]; simp
    omega
theorem dropsL_bound : ∀ l : List Int, 0 ≤ dropsL l ∧ dropsL l ≤ l.length
  | [] => by simp [dropsL]
  | x :: r => by
    have := dropsL_bound r
    simp only [dropsL, List.length_cons]
    split <;> omega
mutual
theorem ofE_le : ∀ (t : Te) (x : Int), x ∈ ofE t → 0 ≤ x ∧ x ≤ sizeE t
  | .node k n s l, x, h => by
    rw [ofE, List.mem_append] at h
    rw [sizeE]
    rcases h with h | h
    · cases l with
      | nil => simp [ownE] at h
      | cons t r =>
        simp only [ownE, List.mem_map] at h
        obtain ⟨i, _, rfl⟩ := h
        have := usesE_le t (moreE k n - 1 - (i : Int))
        rw [sizeEL]
        omega
    · have := ofEL_le l x h; omega
theorem ofEL_le : ∀ (l : List Te) (x : Int), x ∈ ofEL l → 0 ≤ x ∧ x ≤ sizeEL l
  | [], x, h => by simp [ofEL] at h
  | t :: r, x, h => by
    rw [ofEL, List.mem_append] at h
    rw [sizeEL]
    rcases h with h | h
    · have := ofE_le t x h; omega
    · have := ofEL_le r x h; omega
end
theorem pre_len {t : Te} {pre : List Int} (h : pre <+: (ofE t).reverse) : pre.length ≤ 8 * sizeE t := by
  have h1 := h.length_le
  have h2 := ofE_len t
  simp only [List.length_reverse] at h1
  omega
theorem pre_le {t : Te} {pre : List Int} (h : pre <+: (ofE t).reverse) : ∀ x ∈ pre, 0 ≤ x ∧ x ≤ sizeE t := fun x hx => by
  have := h.subset hx
  exact ofE_le t x (by simpa using this)
theorem fans_ok {t : Te} {pre : List Int} (hs : sizeE t ≤ 1000000) (h : pre <+: (ofE t).reverse) : 0 ≤ fansL pre ∧ fansL pre ≤ 8000000000000 := by
  have h1 := fansL_bound (M := 1000000) (by omega) pre fun x hx => by have := pre_le h x hx; omega
  have h2 := pre_len h
  have h3 : (pre.length : Int) * 1000000 ≤ 8000000 * 1000000 := Int.mul_le_mul_of_nonneg_right (by omega) (by omega)
  omega
theorem gz_below {Z0 Z' : Nat → Prop} {w w1 V : World} (hb : Below w.heap.size w w1) (hZ : ∀ k, Z0 k → w.heap.size ≤ k) (h : Gz No Z0 w1 Z' V) : Below w.heap.size w V :=
  ⟨h.os.trans hb.os, h.tape.trans hb.tape, h.output.trans hb.output, Nat.le_trans hb.size h.size, fun k hk => (h.same k (by have := hb.size; omega) (fun hz => by have := hZ k hz; omega) (fun h => h)).trans (hb.block k hk)⟩
/-- A number in a box of one's own. -/
def BoxI (S : Nat) (f : List Int → Int) : List Int → (Nat → Prop) → World → Prop := fun pre Z U => Z = (· = S) ∧ Lies U S 3 #[.int .i64 (f pre)]
theorem BoxI.stands (S : Nat) (f : List Int → Int) : Stands (BoxI S f) :=
  ⟨fun pre Z A B h _ hk => ⟨h.1, (hk S (by rw [h.1])).trans h.2⟩, fun pre Z A h k hk => by obtain ⟨rfl, L⟩ := h; have e : k = S := hk; subst e; exact L.lt⟩
theorem Gz.setCellZ {E Z Z' : Nat → Prop} {A B : World} (h : Gz E Z A Z' B) (p : Addr) (v : Value) (hp : Z p.block) : Gz E Z A Z' (B.setCell p v) :=
  ⟨h.os, h.tape, h.output, by rw [show (B.setCell p v).heap.size = B.heap.size from by simp [World.setCell]]; exact h.size,
    fun k hk hz he => (Below.heap_setCell B p v k (fun e => hz (e ▸ hp))).trans (h.same k hk hz he), h.ext⟩
theorem below_put {B : Nat} {w V : World} (h : Below B w V) {D : Nat} {o o' : Obj} (_ : V.heap[D]? = some o) (hD : B ≤ D) : Below B w (V.putObj D o') :=
  ⟨h.os, h.tape, h.output, by rw [World.putObj_size]; exact h.size, fun k hk => (World.putObj_heap_other (by omega)).trans (h.block k hk)⟩
theorem nowhere : Stands (fun _ _ _ => False) := ⟨fun _ _ _ _ h _ _ => h, fun _ _ _ h => h.elim⟩
theorem ein_lt {w : World} {t : Te} {A : Option Addr} (h : EIn w Any t A) : EIn w (· < w.heap.size) t A := EIn.wide t h fun _ _ hlt => hlt
set_option maxHeartbeats 4000000 in
theorem fans_any (t : Te) (A : Option Addr) (c : Nat) (w : World) (hd : depthE t ≤ 4000) (hs : sizeE t ≤ 1000000) (ht : tameE 1099511627776 1099511627776 t) (hI : EIn w Any t A) :
    Calls Try.prog 16 #[ev t A c] w fun e w' => e = .returned (.int .i64 (fansL (ofE t))) ∧ Below w.heap.size w w' := by
  obtain ⟨k, n, s, lst⟩ := t
  show Calls Try.prog 16 #[.agg #[.int .i64 k, .int .i64 n, .string s, .slice A lst.length (capF lst.length c)]] w _
  refine (callsIn_wide (n := 0)).1 ?_
  refine callsIn_of_wp_marks Try.func16 rfl trivial ?_ rfl
  simp only [Try.ntmps16, List.size_toArray, List.length_cons, List.length_nil, Nat.reduceAdd, Nat.reduceSub, Array.replicate_succ, Array.replicate_zero, List.push_toArray, List.append_toArray, List.nil_append, List.cons_append]
  gi_upto_region 2 with fail
  obtain ⟨w1, hw1⟩ : ∃ w1, w1 = ((w.alloc (.cells #[.int .i64 k, .int .i64 n, .string s, .slice A lst.length (capF lst.length c)] 24)).alloc (.cells #[.int .i64 0] 3)) := ⟨_, rfl⟩
  have hs1 : w1.heap.size = w.heap.size + 2 := by rw [hw1]; simp
  have hb1 : Below w.heap.size w w1 := by rw [hw1]; exact ((Below.refl _ w).alloc (Nat.le_refl _) _).alloc (by simp) _
  have L0 : Lies w1 w.heap.size 24 #[.int .i64 k, .int .i64 n, .string s, .slice A lst.length (capF lst.length c)] := by rw [hw1]; exact (Lies.new _ _ _).old _
  have L1 : Lies w1 (w.heap.size + 1) 3 #[.int .i64 0] := by rw [hw1]; exact lies_next _ _ _ _ (by simp)
  have c0 := L0.four
  rw [← hw1]
  clear hw1
  gi_wp2_with (gi_at_call 21; refine (callsIn_wide.2 (usesF_any _ _ _ _ _ _ _)).mono ?_; rintro e w' ⟨rfl, rfl⟩)
  have L2 := Lies.new w1 24 #[.int .i64 k, .int .i64 n, .string s, .slice A lst.length (capF lst.length c)]
  have hb2 : Below w.heap.size w (w1.alloc (.cells #[.int .i64 k, .int .i64 n, .string s, .slice A lst.length (capF lst.length c)] 24)) := hb1.alloc hb1.size _
  have L1' := L1.old (.cells #[.int .i64 k, .int .i64 n, .string s, .slice A lst.length (capF lst.length c)] 24)
  have hs2 : (w1.alloc (.cells #[.int .i64 k, .int .i64 n, .string s, .slice A lst.length (capF lst.length c)] 24)).heap.size = w.heap.size + 3 := by simp [hs1]
  generalize w1.alloc (.cells #[.int .i64 k, .int .i64 n, .string s, .slice A lst.length (capF lst.length c)] 24) = w2 at L2 hb2 L1' hs2 ⊢
  rename_i K2 hK2
  rw [hs1] at L2
  have HI := Lib.hid hI
  clear L0 L1 c0 hb1 hs1 hI
  refine uses_range (w.heap.size + 2) (.node k n s lst) A c (X := (· < w.heap.size)) (Z0 := (· = w.heap.size + 1)) (I := BoxI (w.heap.size + 1) fansL) (Ix := fun _ _ _ => False) rfl rfl (BoxI.stands _ _) nowhere hd (by omega) ht
    L2 (EIn.below _ (ein_lt HI.out) hb2 (Nat.le_refl _)) (fun q hq => ⟨by have := hb2.size; omega, by omega⟩) ⟨rfl, L1'⟩
    (fun x => { tmps := #[.agg #[.int .i64 k, .int .i64 n, .string s, .slice A lst.length (capF lst.length c)], .pointer (some ⟨w.heap.size, 0, none⟩), .int .i64 0, .pointer (some ⟨w.heap.size + 1, 0, none⟩), .int .i64 x, .agg #[.int .i64 k, .int .i64 n, .string s, .slice A lst.length (capF lst.length c)], .func (.func 30) #[] #[.pointer (some ⟨w.heap.size + 2, 0, none⟩)], .int .i64 x, undef, undef, undef, undef, undef, undef], defers := [] }) ?assign ?body ?done ?stop
  case assign =>
    intro l x U K hK
    gi_wp2
    exact hK
  case body =>
    rintro l pre x Z V hsz ⟨rfl, LV⟩ hpre
    have hb := pre_le hpre x (by simp)
    have hf1 := fans_ok hs ((List.prefix_append pre [x]).trans hpre)
    have hf2 := fans_ok hs hpre
    rw [fansL_snoc] at hf2
    have HF := Lib.hid (fansL_snoc pre x)
    have x0 := LV.cell 0
    have x1 := LV.frozen 0
    simp at x0
    generalize fansL pre = fv at HF hf1 hf2 x0
    obtain ⟨fz, hfz⟩ : ∃ fz, fz = fansL (pre ++ [x]) := ⟨_, rfl⟩
    rw [← hfz] at HF
    have HFZ := Lib.hid hfz
    have LV2 := LV
    clear hpre LV hfz
    rcases Int.le_total 0 (x - 1) with hx | hx
    · have e1 : max (x - 1) 0 = x - 1 := by omega
      rw [e1] at HF hf2
      gi_wp2
      refine ⟨_, (Gz.refl No _ V).setCellZ _ _ rfl, rfl, ?_⟩
      have := LV2.put 0 (.int .i64 (fv + (x - 1)))
      rw [← HFZ.out, HF.out]
      simpa using this
    · have e1 : max (x - 1) 0 = 0 := by omega
      rw [e1] at HF hf2
      gi_wp2
      refine ⟨_, (Gz.refl No _ V).setCellZ _ _ rfl, rfl, ?_⟩
      have := LV2.put 0 (.int .i64 (fv + 0))
      rw [← HFZ.out, HF.out]
      simpa using this
  case done =>
    rintro D Z V hD hDV hZD hG ⟨rfl, LV⟩ hdef
    have x0 := LV.cell 0
    simp at x0
    have hbV := gz_below hb2 (fun q hq => by have e : q = w.heap.size + 1 := hq; omega) hG
    rw [fansL_rev] at x0
    simp only [Exit.inBlock, Exit.then]
    refine hK2 _ _ ?_
    gi_wp2
    refine ends1 hdef (results_tmp rfl _ _ _) ⟨rfl, ?_⟩
    exact below_put hbV hdef (by omega)
  case stop =>
    rintro D Z V q _ _ _ _ _ h _
    exact h.elim
set_option maxHeartbeats 4000000 in
theorem drops_any (t : Te) (A : Option Addr) (c : Nat) (w : World) (hd : depthE t ≤ 4000) (hs : sizeE t ≤ 1000000) (ht : tameE 1099511627776 1099511627776 t) (hI : EIn w Any t A) :
    Calls Try.prog 17 #[ev t A c] w fun e w' => e = .returned (.int .i64 (dropsL (ofE t))) ∧ Below w.heap.size w w' := by
  obtain ⟨k, n, s, lst⟩ := t
  show Calls Try.prog 17 #[.agg #[.int .i64 k, .int .i64 n, .string s, .slice A lst.length (capF lst.length c)]] w _
  refine (callsIn_wide (n := 0)).1 ?_
  refine callsIn_of_wp_marks Try.func17 rfl trivial ?_ rfl
  simp only [Try.ntmps17, List.size_toArray, List.length_cons, List.length_nil, Nat.reduceAdd, Nat.reduceSub, Array.replicate_succ, Array.replicate_zero, List.push_toArray, List.append_toArray, List.nil_append, List.cons_append]
  gi_upto_region 2 with fail
  obtain ⟨w1, hw1⟩ : ∃ w1, w1 = ((w.alloc (.cells #[.int .i64 k, .int .i64 n, .string s, .slice A lst.length (capF lst.length c)] 24)).alloc (.cells #[.int .i64 0] 3)) := ⟨_, rfl⟩
  have hs1 : w1.heap.size = w.heap.size + 2 := by rw [hw1]; simp
  have hb1 : Below w.heap.size w w1 := by rw [hw1]; exact ((Below.refl _ w).alloc (Nat.le_refl _) _).alloc (by simp) _
  have L0 : Lies w1 w.heap.size 24 #[.int .i64 k, .int .i64 n, .string s, .slice A lst.length (capF lst.length c)] := by rw [hw1]; exact (Lies.new _ _ _).old _
  have L1 : Lies w1 (w.heap.size + 1) 3 #[.int .i64 0] := by rw [hw1]; exact lies_next _ _ _ _ (by simp)
  have c0 := L0.four
  rw [← hw1]
  clear hw1
  gi_wp2_with (gi_at_call 21; refine (callsIn_wide.2 (usesF_any _ _ _ _ _ _ _)).mono ?_; rintro e w' ⟨rfl, rfl⟩)
  have L2 := Lies.new w1 24 #[.int .i64 k, .int .i64 n, .string s, .slice A lst.length (capF lst.length c)]
  have hb2 : Below w.heap.size w (w1.alloc (.cells #[.int .i64 k, .int .i64 n, .string s, .slice A lst.length (capF lst.length c)] 24)) := hb1.alloc hb1.size _
  have L1' := L1.old (.cells #[.int .i64 k, .int .i64 n, .string s, .slice A lst.length (capF lst.length c)] 24)
  have hs2 : (w1.alloc (.cells #[.int .i64 k, .int .i64 n, .string s, .slice A lst.length (capF lst.length c)] 24)).heap.size = w.heap.size + 3 := by simp [hs1]
  generalize w1.alloc (.cells #[.int .i64 k, .int .i64 n, .string s, .slice A lst.length (capF lst.length c)] 24) = w2 at L2 hb2 L1' hs2 ⊢
  rename_i K2 hK2
  rw [hs1] at L2
  have HI := Lib.hid hI
  clear L0 L1 c0 hb1 hs1 hI
  refine uses_range (w.heap.size + 2) (.node k n s lst) A c (X := (· < w.heap.size)) (Z0 := (· = w.heap.size + 1)) (I := BoxI (w.heap.size + 1) dropsL) (Ix := fun _ _ _ => False) rfl rfl (BoxI.stands _ _) nowhere hd (by omega) ht
    L2 (EIn.below _ (ein_lt HI.out) hb2 (Nat.le_refl _)) (fun q hq => ⟨by have := hb2.size; omega, by omega⟩) ⟨rfl, L1'⟩
    (fun x => { tmps := #[.agg #[.int .i64 k, .int .i64 n, .string s, .slice A lst.length (capF lst.length c)], .pointer (some ⟨w.heap.size, 0, none⟩), .int .i64 0, .pointer (some ⟨w.heap.size + 1, 0, none⟩), .int .i64 x, .agg #[.int .i64 k, .int .i64 n, .string s, .slice A lst.length (capF lst.length c)], .func (.func 30) #[] #[.pointer (some ⟨w.heap.size + 2, 0, none⟩)], .int .i64 x, undef, undef, undef, undef, undef], defers := [] }) ?assign ?body ?done ?stop
  case assign =>
    intro l x U K hK
    gi_wp2
    exact hK
  case body =>
    rintro l pre x Z V hsz ⟨rfl, LV⟩ hpre
    have hb := pre_le hpre x (by simp)
    have hf1 := dropsL_bound pre
    have hpl := pre_len ((List.prefix_append pre [x]).trans hpre)
    have HF := Lib.hid (dropsL_snoc pre x)
    have x0 := LV.cell 0
    have x1 := LV.frozen 0
    simp at x0
    generalize dropsL pre = fv at HF hf1 x0 LV
    obtain ⟨fz, hfz⟩ : ∃ fz, fz = dropsL (pre ++ [x]) := ⟨_, rfl⟩
    rw [← hfz] at HF
    have HFZ := Lib.hid hfz
    have LV2 := LV
    clear hpre LV hfz
    by_cases hx : x = 0
    · subst hx
      rw [if_pos rfl] at HF
      gi_wp2
      refine ⟨_, (Gz.refl No _ V).setCellZ _ _ rfl, rfl, ?_⟩
      have := LV2.put 0 (.int .i64 (fv + 1))
      rw [← HFZ.out, HF.out]
      simpa using this
    · rw [if_neg hx] at HF
      have hx1 : (x == 0) = false := by simpa using hx
      clear hx
      gi_wp2
      refine ⟨_, Gz.refl No _ V, rfl, ?_⟩
      rw [← HFZ.out, HF.out]
      simpa using LV2
  case done =>
    rintro D Z V hD hDV hZD hG ⟨rfl, LV⟩ hdef
    have x0 := LV.cell 0
    simp at x0
    have hbV := gz_below hb2 (fun q hq => by have e : q = w.heap.size + 1 := hq; omega) hG
    rw [dropsL_rev] at x0
    simp only [Exit.inBlock, Exit.then]
    refine hK2 _ _ ?_
    gi_wp2
    refine ends1 hdef (results_tmp rfl _ _ _) ⟨rfl, ?_⟩
    exact below_put hbV hdef (by omega)
  case stop =>
    rintro D Z V q _ _ _ _ _ h _
    exact h.elim
/-- No number above 1. -/
def affB (l : List Int) : Bool := l.all fun x => decide (x ≤ 1)
/-- A truth in a box of one's own, of which P holds. -/
def BoxB (S : Nat) (P : List Int → Prop) : List Int → (Nat → Prop) → World → Prop := fun pre Z U => Z = (· = S) ∧ Lies U S 4 #[.bool false] ∧ P pre
theorem BoxB.stands (S : Nat) (P : List Int → Prop) : Stands (BoxB S P) :=
  ⟨fun pre Z A B h _ hk => ⟨h.1, (hk S (by rw [h.1])).trans h.2.1, h.2.2⟩, fun pre Z A h k hk => by obtain ⟨rfl, L, _⟩ := h; have e : k = S := hk; subst e; exact L.lt⟩
set_option maxHeartbeats 4000000 in
theorem affine_any (t : Te) (A : Option Addr) (c : Nat) (w : World) (hd : depthE t ≤ 4000) (hs : sizeE t ≤ 1000000) (ht : tameE 1099511627776 1099511627776 t) (hI : EIn w Any t A) :
    Calls Try.prog 8 #[ev t A c] w fun e w' => e = .returned (.bool (affB (ofE t))) ∧ Below w.heap.size w w' := by
  obtain ⟨k, n, s, lst⟩ := t
  show Calls Try.prog 8 #[.agg #[.int .i64 k, .int .i64 n, .string s, .slice A lst.length (capF lst.length c)]] w _
  refine (callsIn_wide (n := 0)).1 ?_
  refine callsIn_of_wp_marks Try.func8 rfl trivial ?_ rfl
  simp only [Try.ntmps8, List.size_toArray, List.length_cons, List.length_nil, Nat.reduceAdd, Nat.reduceSub, Array.replicate_succ, Array.replicate_zero, List.push_toArray, List.append_toArray, List.nil_append, List.cons_append]
  gi_upto_region 1 with fail
  obtain ⟨w1, hw1⟩ : ∃ w1, w1 = ((w.alloc (.cells #[.int .i64 k, .int .i64 n, .string s, .slice A lst.length (capF lst.length c)] 24)).alloc (.cells #[.bool false] 4)) := ⟨_, rfl⟩
  have hs1 : w1.heap.size = w.heap.size + 2 := by rw [hw1]; simp
  have hb1 : Below w.heap.size w w1 := by rw [hw1]; exact ((Below.refl _ w).alloc (Nat.le_refl _) _).alloc (by simp) _
  have L0 : Lies w1 w.heap.size 24 #[.int .i64 k, .int .i64 n, .string s, .slice A lst.length (capF lst.length c)] := by rw [hw1]; exact (Lies.new _ _ _).old _
  have L1 : Lies w1 (w.heap.size + 1) 4 #[.bool false] := by rw [hw1]; exact lies_next _ _ _ _ (by simp)
  have c0 := L0.four
  rw [← hw1]
  clear hw1
  gi_wp2_with (gi_at_call 21; refine (callsIn_wide.2 (usesF_any _ _ _ _ _ _ _)).mono ?_; rintro e w' ⟨rfl, rfl⟩)
  have L2 := Lies.new w1 24 #[.int .i64 k, .int .i64 n, .string s, .slice A lst.length (capF lst.length c)]
  have hb2 : Below w.heap.size w (w1.alloc (.cells #[.int .i64 k, .int .i64 n, .string s, .slice A lst.length (capF lst.length c)] 24)) := hb1.alloc hb1.size _
  have L1' := L1.old (.cells #[.int .i64 k, .int .i64 n, .string s, .slice A lst.length (capF lst.length c)] 24)
  have hs2 : (w1.alloc (.cells #[.int .i64 k, .int .i64 n, .string s, .slice A lst.length (capF lst.length c)] 24)).heap.size = w.heap.size + 3 := by simp [hs1]
  generalize w1.alloc (.cells #[.int .i64 k, .int .i64 n, .string s, .slice A lst.length (capF lst.length c)] 24) = w2 at L2 hb2 L1' hs2 ⊢
  rename_i K2 hK2
  rw [hs1] at L2
  have HI := Lib.hid hI
  clear L0 L1 c0 hb1 hs1 hI
  refine uses_range (w.heap.size + 2) (.node k n s lst) A c (X := (· < w.heap.size)) (Z0 := (· = w.heap.size + 1)) (I := BoxB (w.heap.size + 1) (fun pre => ∀ x ∈ pre, x ≤ 1)) (Ix := BoxB (w.heap.size + 1) (fun pre => ∃ x ∈ pre, 1 < x)) rfl rfl (BoxB.stands _ _) (BoxB.stands _ _) hd (by omega) ht
    L2 (EIn.below _ (ein_lt HI.out) hb2 (Nat.le_refl _)) (fun q hq => ⟨by have := hb2.size; omega, by omega⟩) ⟨rfl, L1', by simp⟩
    (fun x => { tmps := #[.agg #[.int .i64 k, .int .i64 n, .string s, .slice A lst.length (capF lst.length c)], .pointer (some ⟨w.heap.size, 0, none⟩), .pointer (some ⟨w.heap.size + 1, 0, none⟩), .int .i64 x, .agg #[.int .i64 k, .int .i64 n, .string s, .slice A lst.length (capF lst.length c)], .func (.func 30) #[] #[.pointer (some ⟨w.heap.size + 2, 0, none⟩)], .int .i64 x, undef, undef], defers := [] }) ?assign ?body ?done ?stop
  case assign =>
    intro l x U K hK
    gi_wp2
    exact hK
  case body =>
    rintro l pre x Z V hsz ⟨rfl, LV, hP⟩ hpre
    have x0 : V.cell? ⟨w.heap.size + 1, 0, none⟩ = some (.bool false) := LV.cell 0
    have x1 := LV.frozen 0
    have LV2 := Lib.hid LV
    have HP := Lib.hid hP
    clear hpre LV hP
    by_cases hx : 1 < x
    · gi_wp2
      refine ⟨_, (Gz.refl No _ V).setCellZ _ _ rfl, rfl, ?_, x, by simp, hx⟩
      have := LV2.out.put 0 (.bool false)
      simpa using this
    · gi_wp2
      refine ⟨_, Gz.refl No _ V, rfl, LV2.out, fun y hy => ?_⟩
      rcases List.mem_append.1 hy with hy | hy
      · exact HP.out y hy
      · have e : y = x := by simpa using hy
        omega
  case done =>
    rintro D Z V hD hDV hZD hG ⟨rfl, LV, hP⟩ hdef
    have x0 : V.cell? ⟨w.heap.size + 1, 0, none⟩ = some (.bool false) := LV.cell 0
    have x1 := LV.frozen 0
    have hbV := gz_below hb2 (fun q hq => by have e : q = w.heap.size + 1 := hq; omega) hG
    have hne : D ≠ w.heap.size + 1 := fun e => hZD e
    have ha : affB (ofE (.node k n s lst)) = true := by
      rw [affB, List.all_eq_true]
      intro y hy
      exact decide_eq_true (hP y (by simpa using hy))
    simp only [Exit.inBlock, Exit.then]
    refine hK2 _ _ ?_
    gi_wp2
    have hcc : ((V.setCell ⟨w.heap.size + 1, 0, none⟩ (.bool true)).putObj D (.deferred none)).cell? ⟨w.heap.size + 1, 0, none⟩ = some (.bool true) := by
      refine (World.cell?_of_block (World.putObj_heap_other (by show w.heap.size + 1 ≠ D; omega))).trans ?_
      exact World.cell?_setCell_same' _ _ _ (by rw [x0]; rfl)
    have hd4 : (V.setCell ⟨w.heap.size + 1, 0, none⟩ (.bool true)).heap[D]? = some (.deferred (some [])) := (Below.heap_setCell _ _ _ _ hne).trans hdef
    refine ends1 hd4 (results_bool rfl _ (g := w.heap.size + 1) (r := true) rfl hcc) ⟨by first | rfl | rw [ha], ?_⟩
    exact below_put (hbV.setCell (p := ⟨w.heap.size + 1, 0, none⟩) (by show w.heap.size ≤ w.heap.size + 1; omega) _) hd4 (by omega)
  case stop =>
    rintro D Z V q hD hDV hZD hq hG ⟨rfl, LV, x, hx, hx1⟩ hdef
    have hbV := gz_below hb2 (fun q hq => by have e : q = w.heap.size + 1 := hq; omega) hG
    have hne : D ≠ w.heap.size + 1 := fun e => hZD e
    have ha : affB (ofE (.node k n s lst)) = false := by
      rw [affB, List.all_eq_false]
      exact ⟨x, by simpa using hq.subset hx, by simp; omega⟩
    simp only [Exit.inBlock, Exit.then]
    have hcc : (V.putObj D (.deferred none)).cell? ⟨w.heap.size + 1, 0, none⟩ = some (.bool false) := (World.cell?_of_block (World.putObj_heap_other (by show w.heap.size + 1 ≠ D; omega))).trans (LV.cell 0)
    refine ends1 hdef (results_bool rfl _ (g := w.heap.size + 1) (r := false) rfl hcc) ⟨by rw [ha], ?_⟩
    exact below_put hbV hdef (by omega)
end Lx
end Go.Proofs.Ytgnafcnokenogaa
namespace Go.Proofs.Ytgnafcnokenogaa
open Go Go.RowKit
attribute [local go_sem] Oper.semAt_some
namespace Lx
set_option maxRecDepth 100000
attribute [local go_sem] wide_fn wide_depth
/-- A row of one's own, its slice in a box. -/
def BoxR (S base : Nat) : List Int → (Nat → Prop) → World → Prop := fun pre Z U => ∃ A c, Z = (fun q => q = S ∨ (Value.slice A pre.length c).ownBlock = some q) ∧ Lies U S 35 #[.slice A pre.length c] ∧ (S < base ∧ base ≤ U.heap.size) ∧ U.ownsRow base 3 1 (.slice A pre.length c) pre.length (vI pre)
theorem ownsRow_heap {W W' : World} {b e n : Nat} {v : Value} {xs : List Value} (h : W.ownsRow b e 1 v n xs) (hk : ∀ q, v.ownBlock = some q → W'.heap[q]? = W.heap[q]?) : W'.ownsRow b e 1 v n xs := by
  obtain ⟨hl, h | ⟨g, cap, cur, h1, h2, h3, h4⟩⟩ := h
  · exact ⟨hl, .inl h⟩
  · exact ⟨hl, .inr ⟨g, cap, cur, h1, h2, (hk g (by rw [h1]; rfl)).trans h3, h4⟩⟩
theorem BoxR.stands (S base : Nat) : Stands (BoxR S base) := by
  refine ⟨?_, ?_⟩
  · rintro pre Z A B ⟨A', c, rfl, L, hS, hr⟩ hsz hk
    exact ⟨A', c, rfl, (hk S (.inl rfl)).trans L, ⟨hS.1, Nat.le_trans hS.2 hsz⟩, ownsRow_heap hr fun q hq => hk q (.inr hq)⟩
  · rintro pre Z A ⟨A', c, rfl, L, hS, hr⟩ k hk
    rcases hk with rfl | hk
    · exact L.lt
    · exact (hr.lt k hk).2
set_option maxHeartbeats 4000000 in
theorem appSeq_any (t : Te) (A : Option Addr) (c bx : Nat) (w : World) (hd : depthE t ≤ 4000) (hs : sizeE t ≤ 1000000) (ht : tameE 1099511627776 1099511627776 t) (hI : EIn w (· < bx) t A)
    (L : Lies w bx 24 #[.int .i64 t.kind, .int .i64 t.n, .string t.name, .slice A t.parts.length (capF t.parts.length c)]) :
    Calls Try.prog 42 #[.slice none 0 0, .func (.func 30) #[] #[.pointer (some ⟨bx, 0, none⟩)]] w fun e w' => ∃ A' c', e = .returned (.slice A' (ofE t).length c') ∧ w'.ownsRow w.heap.size 3 1 (.slice A' (ofE t).length c') (ofE t).length (vI (ofE t).reverse) ∧ Below w.heap.size w w' := by
  refine (callsIn_wide (n := 0)).1 ?_
  refine callsIn_of_wp_marks Try.func42 rfl trivial ?_ rfl
  simp only [Try.ntmps42, List.size_toArray, List.length_cons, List.length_nil, Nat.reduceAdd, Nat.reduceSub, Array.replicate_succ, Array.replicate_zero, List.push_toArray, List.append_toArray, List.nil_append, List.cons_append]
  gi_wp2
  have hbw := L.lt
  have L1 := Lies.new w 35 #[.slice none 0 0]
  have L0 := L.old (.cells #[.slice none 0 0] 35)
  have hb2 : Below w.heap.size w (w.alloc (.cells #[.slice none 0 0] 35)) := (Below.refl _ w).alloc (Nat.le_refl _) _
  have hs2 : (w.alloc (.cells #[.slice none 0 0] 35)).heap.size = w.heap.size + 1 := by simp
  generalize w.alloc (.cells #[.slice none 0 0] 35) = w2 at L1 L0 hb2 hs2 ⊢
  rename_i K2 hK2
  have HI := Lib.hid hI
  have hdd := depthE_pos t
  clear hI
  refine uses_range bx t A c (X := (· < bx)) (Z0 := fun q => q = w.heap.size ∨ (Value.slice none 0 0).ownBlock = some q) (I := BoxR w.heap.size (w.heap.size + 1)) (Ix := fun _ _ _ => False) rfl rfl (BoxR.stands _ _) nowhere hd (by omega) ht
    L0 (EIn.below _ HI.out hb2 (Nat.le_refl _)) (fun q hq => ⟨by have := hb2.size; omega, fun h => h.elim (fun h => by omega) (fun h => by cases h)⟩) ⟨none, 0, rfl, L1, ⟨by omega, by omega⟩, World.ownsRow_nil _ _ _ _⟩
    (fun x => { tmps := #[.slice none 0 0, .func (.func 30) #[] #[.pointer (some ⟨bx, 0, none⟩)], .pointer (some ⟨w.heap.size, 0, none⟩), undef, .slice none 0 0, .int .i64 x, .func (.func 30) #[] #[.pointer (some ⟨bx, 0, none⟩)], .int .i64 x, undef, undef, undef, undef, undef], defers := [] }) ?assign ?body ?done ?stop
  case assign =>
    intro l x U K hK
    gi_wp2
    exact hK
  case body =>
    rintro l pre x Z V hsz ⟨A', c', rfl, LV, hS, hrow⟩ hpre
    have hpl := pre_len hpre
    simp only [List.length_append, List.length_cons, List.length_nil] at hpl
    obtain ⟨i0, hi0, hz0, hz1, hz2⟩ := info_parts infoI
    have x0 := LV.cell 0
    simp at x0
    have hneS : ∀ q, (Value.slice A' pre.length c').ownBlock = some q → q ≠ w.heap.size := fun q hq => by have := (hrow.lt q hq).1; omega
    have HG : Hid (∀ V', (V.alloc (.cells #[.int .i64 x] 3)).grownBy V' (Value.slice A' pre.length c').ownBlock → V'.cell? ⟨w.heap.size, 0, none⟩ = some (.slice A' pre.length c') ∧ V'.frozen? ⟨w.heap.size, 0, none⟩ = false ∧ Lies V' w.heap.size 35 #[.slice A' pre.length c']) := Lib.hid fun V' hg => by
      have h2 : Lies V' w.heap.size 35 #[.slice A' pre.length c'] := (hg.block _ (by rw [World.size_alloc]; omega) (fun e => hneS _ e.symm rfl)).trans (LV.old _)
      exact ⟨h2.cell 0, h2.frozen 0, h2⟩
    have hVs : w.heap.size + 1 ≤ V.heap.size := by have := LV.lt; omega
    have LV2 := Lib.hid LV
    have HROW := Lib.hid hrow
    clear hpre LV
    gi_wp2_with (gi_at_builtin; refine wpListIn_append_own_at _ rfl _ _ 35 rfl (w.heap.size + 1) 3 i0 (.int .i64 0) 1 8 Try.underlying35 hi0 hz0 hz1 hz2 rfl (by decide) _ _ _ rfl (hrow.alloc _) ⟨V.heap.size, 0, none⟩ 1 1 [.int .i64 x] rfl rfl (cell_one_new _ _ _) (by simp [Value.oneCell']) (by simp only [maxLen]; omega) (by omega) (by simp; omega) ?_; intro v' w5 hown' hgrow _ hat; obtain ⟨g', cap', rfl⟩ := ownsRow_succ hown'; obtain ⟨y0, y1, y2⟩ := HG.out _ hgrow)
    have hlen : (pre ++ [x]).length = pre.length + 1 := by simp
    have hg'1 := (hown'.lt g' rfl).1
    refine ⟨fun q => q = w.heap.size ∨ (Value.slice (some ⟨g', 0, none⟩) (pre.length + 1) cap').ownBlock = some q, ?_, some ⟨g', 0, none⟩, cap', by rw [hlen], ?_, ⟨by omega, by have := hgrow.size; rw [World.size_alloc] at this; rw [show (w5.setCell ⟨w.heap.size, 0, none⟩ (.slice (some ⟨g', 0, none⟩) (pre.length + 1) cap')).heap.size = w5.heap.size from by simp [World.setCell]]; omega⟩, ?_⟩
    · have hG1 : Gz (fun q => (Value.slice A' pre.length c').ownBlock = some q) No V No w5 := ((Gz.refl _ _ _).alloc _).grown hgrow (fun k e => .inr e)
      refine ⟨hG1.os, hG1.tape, hG1.output, by rw [show (w5.setCell ⟨w.heap.size, 0, none⟩ (.slice (some ⟨g', 0, none⟩) (pre.length + 1) cap')).heap.size = w5.heap.size from by simp [World.setCell]]; exact hG1.size, fun k hk hz _ => ?_, fun k hz => ?_⟩
      · exact (Below.heap_setCell _ _ _ _ (fun e => hz (.inl e))).trans (hG1.same k hk (fun h => h) (fun e => hz (.inr e)))
      · rcases hz with hz | hz
        · exact .inl (.inl hz)
        · rcases hat with hat | hat
          · exact .inl (.inr (hat ▸ hz))
          · rw [hat] at hz
            injection hz with hz
            simp at hz
            exact .inr (by omega)
    · rw [hlen]
      have := y2.put 0 (.slice (some ⟨g', 0, none⟩) (pre.length + 1) cap')
      simpa using this
    · rw [hlen, vI_snoc]
      exact ownsRow_heap hown' fun q hq => Below.heap_setCell _ _ _ _ (by show q ≠ w.heap.size; injection hq with hq; simp at hq; omega)
  case done =>
    rintro D Z V hD hDV hZD hG ⟨A', c', rfl, LV, hS, hrow⟩ hdef
    have x0 := LV.cell 0
    simp at x0
    have hbV : Below w.heap.size w V := gz_below hb2 (fun q hq => hq.elim (fun h => by omega) (fun h => by cases h)) hG
    simp only [List.length_reverse] at x0 hrow
    simp only [Exit.inBlock, Exit.then]
    refine hK2 _ _ ?_
    gi_wp2
    refine ends1 hdef (results_tmp rfl _ _ _) ⟨_, _, rfl, ?_, below_put hbV hdef (by omega)⟩
    refine ownsRow_base (ownsRow_heap hrow fun q hq => World.putObj_heap_other fun e => hZD (.inr (by rw [List.length_reverse, ← e]; exact hq))) (by omega)
  case stop =>
    rintro D Z V q _ _ _ _ _ h _
    exact h.elim
theorem collect_any (t : Te) (A : Option Addr) (c bx : Nat) (w : World) (hd : depthE t ≤ 4000) (hs : sizeE t ≤ 1000000) (ht : tameE 1099511627776 1099511627776 t) (hI : EIn w (· < bx) t A)
    (L : Lies w bx 24 #[.int .i64 t.kind, .int .i64 t.n, .string t.name, .slice A t.parts.length (capF t.parts.length c)]) :
    Calls Try.prog 23 #[.func (.func 30) #[] #[.pointer (some ⟨bx, 0, none⟩)]] w fun e w' => ∃ A' c', e = .returned (.slice A' (ofE t).length c') ∧ w'.ownsRow w.heap.size 3 1 (.slice A' (ofE t).length c') (ofE t).length (vI (ofE t).reverse) ∧ Below w.heap.size w w' := by
  have hq := appSeq_any t A c bx w hd hs ht hI L
  clear hI L
  go_enter Try.func23, Try.ntmps23
  go_wp2_with (go_at_call 42; refine hq.mono ?_; rintro e w1 ⟨A', c', rfl, hrow, hb⟩)
  go_ret
  exact ⟨_, _, rfl, hrow, hb⟩
end Lx
end Go.Proofs.Ytgnafcnokenogaa
namespace Go.Proofs.Ytgnafcnokenogaa
open Go Go.RowKit
namespace Lx
set_option maxRecDepth 100000
abbrev encV : Int → Value := Value.int .i64
theorem ahead_row (w : World) (q g : Nat) (ys : List Int) (cur : Array Value) (e : TypeId) (h : w.heap[g]? = some (.cells cur e (0, 0))) :
    (Sort.putRow encV (Sort.ahead w q) g 0 ys.toArray).heap[g]? = some (.cells (Sort.putCells encV 0 ys.toArray cur) e (0, 0)) := by
  show (w.heap.modify g (Sort.onCells (Sort.putCells encV 0 ys.toArray)))[g]? = _
  rw [Array.getElem?_modify, if_pos rfl, h]
  rfl
theorem ahead_other (w : World) (q g k : Nat) (ys : List Int) (hk : k ≠ g) : (Sort.putRow encV (Sort.ahead w q) g 0 ys.toArray).heap[k]? = w.heap[k]? := by
  simp [Sort.putRow, Sort.mapBlock, Sort.ahead, Array.getElem?_modify, Ne.symm hk]
theorem put_take (ys : List Int) (cur : Array Value) (m : Nat) (hm : m ≤ ys.length) (h : ys.length ≤ cur.size) : (Sort.putCells encV 0 ys.toArray cur).toList.take m = vI (ys.take m) := by
  apply List.ext_getElem?
  intro j
  by_cases hj : j < m
  · rw [List.getElem?_take_of_lt hj]
    have h1 : j < ys.length := by omega
    have h2 : j < cur.size := by omega
    simp [Sort.putCells, vI, h1, h2, hj]
  · rw [List.getElem?_eq_none (by simp; omega), List.getElem?_eq_none (by simp [vI]; omega)]
theorem putCells_size (ys : List Int) (cur : Array Value) : (Sort.putCells encV 0 ys.toArray cur).size = cur.size := by simp [Sort.putCells]
/-- Behind a call that lays other numbers into a row, the first ones are the row. -/
theorem row_put {w : World} {b g n c : Nat} {xs : List Int} (h : w.ownsRow b 3 1 (.slice (some ⟨g, 0, none⟩) n c) n (vI xs)) (q : Nat) (ys : List Int) (hy : ys.length = n) (m : Nat) (hm : m ≤ n) (os : Array Obj) :
    (Sort.grow (Sort.putRow encV (Sort.ahead w q) g 0 ys.toArray) os).ownsRow b 3 1 (.slice (some ⟨g, 0, none⟩) m c) m (vI (ys.take m)) ∧ Below b w (Sort.grow (Sort.putRow encV (Sort.ahead w q) g 0 ys.toArray) os) := by
  obtain ⟨hl, ⟨h1, _⟩ | ⟨g', cap, cur, h1, h2, h3, h4, h5, h6, h7⟩⟩ := h
  · cases h1
  · injection h1 with h1 _ hc
    injection h1 with h1
    injection h1 with h1
    subst h1 hc
    have hg := (Array.getElem?_eq_some_iff.1 h3).1
    have hs : (Sort.putRow encV (Sort.ahead w q) g 0 ys.toArray).heap.size = w.heap.size := by simp [Sort.putRow, Sort.mapBlock, Sort.ahead]
    have hgr : ∀ k, k < w.heap.size → (Sort.grow (Sort.putRow encV (Sort.ahead w q) g 0 ys.toArray) os).heap[k]? = (Sort.putRow encV (Sort.ahead w q) g 0 ys.toArray).heap[k]? := fun k hk => by
      simp only [Sort.grow]
      rw [Array.getElem?_append_left (by rw [hs]; exact hk)]
    refine ⟨⟨by simp [vI]; omega, .inr ⟨g, c, Sort.putCells encV 0 ys.toArray cur, rfl, h2, (hgr g hg).trans (ahead_row w q g ys cur _ h3), by omega, h5, by rw [putCells_size]; exact h6, ?_⟩⟩, ⟨rfl, rfl, rfl, by simp only [Sort.grow, Array.size_append, hs]; omega, fun k hk => ?_⟩⟩
    · rw [Nat.mul_one]; exact put_take ys cur m (by omega) (by omega)
    · by_cases hkw : k < w.heap.size
      · exact (hgr k hkw).trans (ahead_other w q g k ys (by omega))
      · exact absurd hk (by omega)
theorem row_holds {w : World} {b g n c : Nat} {xs : List Int} (h : w.ownsRow b 3 1 (.slice (some ⟨g, 0, none⟩) n c) n (vI xs)) : Sort.Holds encV w g 0 xs.toArray ∧ g < w.heap.size ∧ xs.length = n ∧ n ≤ c := by
  obtain ⟨hl, ⟨h1, _⟩ | ⟨g', cap, cur, h1, h2, h3, h4, h5, h6, h7⟩⟩ := h
  · cases h1
  · injection h1 with h1 _ hc
    injection h1 with h1
    injection h1 with h1
    subst h1 hc
    have hg := (Array.getElem?_eq_some_iff.1 h3).1
    have hxl : xs.length = n := by simp [vI] at hl; omega
    refine ⟨fun j hj => ?_, hg, hxl, h4⟩
    have hj2 : j < n * 1 := by simp at hj; omega
    have hjx : j < xs.length := by omega
    have e1 : (cur.toList.take (n * 1))[j]? = cur.toList[j]? := List.getElem?_take_of_lt hj2
    rw [h7] at e1
    rw [Nat.zero_add, cell_of_row w g j cur _ (0, 0) h3]
    refine ⟨?_, ?_⟩
    · have e2 : (vI xs)[j]? = some (.int .i64 xs[j]) := by simp [vI, hjx]
      rw [e2] at e1
      have : cur[j]? = some (.int .i64 xs[j]) := by simpa using e1.symm
      rw [this]
      simp [encV, hjx]
    · exact (show Lies w g _ cur from h3).frozen j
end Lx
end Go.Proofs.Ytgnafcnokenogaa
