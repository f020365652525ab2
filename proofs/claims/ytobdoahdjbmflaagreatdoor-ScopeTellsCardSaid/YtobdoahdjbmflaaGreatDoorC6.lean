/-
  Texts that lie one behind the other: ScI ScR RegW ScF.
-/
import Derived.Test.YtobdoahdjbmflaaGreatDoorC5
import Derived.Test.YtobdoahdjbmflaaGreatDoorC1
import Derived.Test.YtobdoahdjbmflaaGreatDoorC4
import Derived.Maps.AppendAt
namespace Go.Proofs.YtobdoahdjbmflaaGreatDoor
open Go Go.RowKit
attribute [local go_sem] Oper.semAt_some
namespace Lx
set_option maxRecDepth 100000
section
variable {l G bm : Nat} {full : List Spot} {J Jx : List Spot → (Nat → Prop) → World → Prop} {X : Nat → Prop}
theorem thr5_any (hA : AsksS l X full J Jx) (d : Nat) : ∀ (t : Tr) (A : Option Addr) (c : Nat) (tw : Bool) (b : List ByteArray) (N : Nat) (pre : List Spot) (Z : Nat → Prop) (W : World), ThrPreS l G bm full J X t A tw d b N pre Z W →
    Calls Tryz.prog 43 #[.pointer (some ⟨G, 0, none⟩), tv t A c, .bool tw] W (ThrPostS bm full J Jx t tw b N pre Z W) := by
  induction d with
  | zero => intro t A c tw b N pre Z W h; have := h.dep; obtain ⟨k, s, n, a, l⟩ := t; rw [depthT] at this; omega
  | succ d ih =>
    intro t A c tw b N pre Z W h
    obtain ⟨k, s, n, a, lst⟩ := t
    exact thr5_node hA d ih k n a s lst A c tw b N pre Z W h
theorem run_store_fnS {P : Program} {w : World} {a : Addr} {m : Mode} (f : Fn) (x y : Array Value) : (store a (.func f x y) m).run P w = stored P w a (.func f x y) m := run_store P w a _ m rfl
attribute [local go_sem] run_store_fnS
set_option maxHeartbeats 4000000 in
/-- The iterator over the places. -/
theorem spotsI_any (bx : Nat) (t : Tr) (A : Option Addr) (c : Nat) (Z : Nat → Prop) (W : World) (hA : AsksS l X (spotsT [] false t) J Jx) (hd : depthT t ≤ 4000) (hs : sizeT t ≤ 1000000) (ht : okT t)
    (L : Lies W bx 24 #[.int .i64 t.kind, .string t.name, .int .i64 t.n, .int .i64 t.place, .slice A t.parts.length (capF t.parts.length c)]) (hI : TIn W X t A) (hX : ∀ g, X g → g < W.heap.size ∧ ¬ Z g) (hJ : J [] Z W) :
    Calls Tryz.prog 42 #[.func (.yield l) #[] #[], .pointer (some ⟨bx, 0, none⟩)] W fun e W' => (∃ v, e = .returned v) ∧ ∃ (r : Bool) (Z' : Nat → Prop), Gz No Z W Z' W' ∧ (r = true → J (spotsT [] false t) Z' W') ∧ (r = false → ∃ q, q <+: spotsT [] false t ∧ Jx q Z' W') := by
  obtain ⟨R, hR⟩ : ∃ R : Ending → World → Prop, R = fun e W' => (∃ v, e = .returned v) ∧ ∃ (r : Bool) (Z' : Nat → Prop), Gz No Z W Z' W' ∧ (r = true → J (spotsT [] false t) Z' W') ∧ (r = false → ∃ q, q <+: spotsT [] false t ∧ Jx q Z' W') := ⟨_, rfl⟩
  rw [← hR]
  obtain ⟨W2, hW2⟩ : ∃ W2, W2 = (W.alloc (.map #[] 0)).alloc (.cells #[.map (some W.heap.size), .func (.yield l) #[] #[]] 80) := ⟨_, rfl⟩
  have hG : Gz No No W No W2 := by rw [hW2]; exact ((Gz.refl _ _ _).alloc _).alloc _
  have hs2 : W2.heap.size = W.heap.size + 2 := by rw [hW2]; simp
  have hZ : ∀ q, W.heap.size ≤ q → ¬ Z q := fun q hq h => by have := hA.lt _ _ _ hJ _ h; omega
  have LG : Lies W2 (W.heap.size + 1) 80 #[.map (some W.heap.size), .func (.yield l) #[] #[]] := by rw [hW2]; simpa using Lies.new (W.alloc (.map #[] 0)) 80 #[.map (some W.heap.size), .func (.yield l) #[] #[]]
  have hM : MapS W2 W.heap.size 0 (countN []) := by
    have h := (MapS.made W).heap (w' := W2) (by rw [hW2]; exact Below.heap_alloc _ _ _ (by simp))
    exact h.eq fun v => rfl
  have hT : Hid (Calls Tryz.prog 43 #[.pointer (some ⟨W.heap.size + 1, 0, none⟩), .agg #[.int .i64 t.kind, .string t.name, .int .i64 t.n, .int .i64 t.place, .slice A t.parts.length (capF t.parts.length c)], .bool false] W2 fun e W' => ∃ v : Value, e = .returned v ∧ R (.returned (.tuple #[])) W') := Lib.hid (by
    refine (thr5_any (G := W.heap.size + 1) (bm := W.heap.size) (X := X) hA (depthT t) t A c false [] 0 [] Z W2
      { dep := Nat.le_refl _, ok := ht, siz := by omega, bnd := by simp; omega
        lies := TIn.gz t hI hG fun g _ => ⟨fun h => h, fun h => h⟩
        mapi := hM
        held := ⟨LG.cell 0, LG.cell 1⟩
        asks := hA.own hJ hG fun _ _ h => h
        offX := fun g hg => ⟨by have := (hX g hg).1; omega, (hX g hg).2, by have := (hX g hg).1; omega⟩
        offG := ⟨hZ _ (by omega), by omega⟩
        offB := hZ _ (Nat.le_refl _)
        pref := List.prefix_rfl }).mono ?_
    rintro e W' ⟨r, Z', rfl, hg, _, h1, h2⟩
    refine ⟨_, rfl, ?_⟩
    rw [hR]
    refine ⟨⟨_, rfl⟩, r, Z', hG.any.tail hg fun i hi e => by have e' : i = W.heap.size := e; omega, fun h => ?_, h2⟩
    simpa using h1 h)
  have c0 := hG.lies L (fun h => h) (fun h => h)
  have hc : Lies W2 bx 24 #[.int .i64 t.kind, .string t.name, .int .i64 t.n, .int .i64 t.place, .slice A t.parts.length (capF t.parts.length c)] := c0
  obtain ⟨d0, d1, d2, d3, d4⟩ := hc.five.1
  have hRv : ∀ v W', R (.returned (.tuple #[])) W' → R (.returned v) W' := fun v W' h => by rw [hR] at h ⊢; exact ⟨⟨_, rfl⟩, h.2⟩
  have HRV := Lib.hid hRv
  obtain ⟨pm, hpm⟩ : ∃ q, q = t.parts.length := ⟨_, rfl⟩
  obtain ⟨pc, hpc⟩ : ∃ q, q = capF pm c := ⟨_, rfl⟩
  rw [← hpm, ← hpc] at hT d4
  clear hA hJ hI hX hG hZ L hR hRv hs2 LG hM c0 hc hpm hpc hs hd ht
  have hmm := @run_makeMap Tryz.prog
  go_enter Tryz.func42, Tryz.ntmps42
  go_upto_region 1 with fail
  rw [← hW2]
  clear hW2
  go_wp2_with (refine hT.out.mono ?_; rintro e w9 ⟨r, rfl, hr⟩)
  go_end0
  exact HRV.out _ _ hr
theorem spotsF_any (k n a : Int) (s : ByteArray) (A : Option Addr) (m c : Nat) (w : World) :
    Calls Tryz.prog 27 #[.agg #[.int .i64 k, .string s, .int .i64 n, .int .i64 a, .slice A m c]] w fun e w' => e = .returned (.func (.func 42) #[] #[.pointer (some ⟨w.heap.size, 0, none⟩)]) ∧ w' = w.alloc (.cells #[.int .i64 k, .string s, .int .i64 n, .int .i64 a, .slice A m c] 24) := by
  go_enter Tryz.func27, Tryz.ntmps27
  go_wp2_with fail
  go_ret
  exact ⟨rfl, rfl⟩
end
end Lx
end Go.Proofs.YtobdoahdjbmflaaGreatDoor
namespace Go.Proofs.YtobdoahdjbmflaaGreatDoor
open Go Go.RowKit
attribute [local go_sem] Oper.semAt_some
namespace Lx
set_option maxRecDepth 100000
/-- What a body stands on, between two rounds and once it has left: blocks of Z alone. -/
structure StandsS (I : List Spot → (Nat → Prop) → World → Prop) : Prop where
  frame : ∀ pre Z A B, I pre Z A → A.heap.size ≤ B.heap.size → (∀ k, Z k → B.heap[k]? = A.heap[k]?) → I pre Z B
  lt : ∀ pre Z A, I pre Z A → ∀ k, Z k → k < A.heap.size
/-- How a body may be left. -/
def ownQS (I Ix : List Spot → (Nat → Prop) → World → Prop) (xs : List Spot) (Z : Nat → Prop) (V : World) : Exit → Act → World → Prop
  | .normal, _, V' => ∃ Z', Gz No Z V Z' V' ∧ I xs Z' V'
  | .ret, _, V' => ∃ Z', Gz No Z V Z' V' ∧ Ix xs Z' V'
  | _, _, _ => False
def withLS (Z : Nat → Prop) (D : Nat) : Nat → Prop := fun k => Z k ∨ k = D ∨ k = D + 1
theorem spots_range {n : Nat} {Q : Exit → Act → World → Prop} {g : Operand} {ps : Array Tmp} {assign body : Code} {a : Act} {w : World} (bx : Nat) (t : Tr) (A : Option Addr) (c : Nat) {X : Nat → Prop} {Z0 : Nat → Prop} {I Ix : List Spot → (Nat → Prop) → World → Prop}
    (hg : a.eval g = .func (.func 42) #[] #[.pointer (some ⟨bx, 0, none⟩)]) (hps : ps.size = 1)
    (hI : StandsS I) (hIx : StandsS Ix) (hd : depthT t ≤ 4000) (hs : sizeT t ≤ 1000000) (ht : okT t)
    (L : Lies w bx 24 #[.int .i64 t.kind, .string t.name, .int .i64 t.n, .int .i64 t.place, .slice A t.parts.length (capF t.parts.length c)]) (hE : TIn w X t A) (hX : ∀ q, X q → q < w.heap.size ∧ ¬ Z0 q) (h0 : I [] Z0 w)
    (a₁ : Spot → Option Addr → Nat → Nat → Act) (hassign : ∀ (l : Nat) (x : Spot) (Ax : Option Addr) (cx : Nat) (U : World) (K : Act → World → Prop), K (a₁ x Ax cx U.heap.size) (U.alloc (.cells (spotC x.t.kind x.t.n x.t.place x.t.name Ax x.t.parts.length (capF x.t.parts.length cx) x.free x.twin) 54)) →
      assign.wpIn (Fence.wide.inRound l) n Tryz.prog (Exit.then K (fun _ _ _ => False)) { tmps := (ps.zip #[sv x Ax cx]).foldl (fun t (p, v) => t.setIfInBounds p v) a.tmps, defers := [] } U)
    (hbody : ∀ (l : Nat) (pre : List Spot) (x : Spot) (Ax : Option Addr) (cx : Nat) (Z : Nat → Prop) (S : Nat) (V : World), w.heap.size ≤ S → ¬ Z S → Lies V S 54 (spotC x.t.kind x.t.n x.t.place x.t.name Ax x.t.parts.length (capF x.t.parts.length cx) x.free x.twin) → TIn V X x.t Ax → I pre Z V → pre ++ [x] <+: (spotsT [] false t) → body.wpIn (Fence.wide.inRound l) n Tryz.prog (ownQS I Ix (pre ++ [x]) Z V) (a₁ x Ax cx S) V)
    (hdone : ∀ (D : Nat) (Z : Nat → Prop) (V : World), w.heap.size ≤ D → D < V.heap.size → ¬ Z D → Gz No Z0 w (withLS Z D) V → I (spotsT [] false t) Z V → V.heap[D]? = some (.deferred (some [])) → Q .normal { a with defers := markOf D :: a.defers } V)
    (hstop : ∀ (D : Nat) (Z : Nat → Prop) (V : World) (q : List Spot), w.heap.size ≤ D → D < V.heap.size → ¬ Z D → q <+: (spotsT [] false t) → Gz No Z0 w (withLS Z D) V → Ix q Z V → V.heap[D]? = some (.deferred (some [])) → Q .ret { a with defers := markOf D :: a.defers } V) :
    (Code.rangeFunc g ps assign body).wpIn Fence.wide n Tryz.prog Q a w := by
  refine range_rec hg (enters_of Tryz.func42 (by kernel_rfl) rfl) (fun fn rec hrec => ?_)
  obtain ⟨D, hD⟩ : ∃ D, D = w.heap.size := ⟨_, rfl⟩
  rw [← hD] at hrec ⊢
  obtain ⟨V2, hV2⟩ : ∃ V2, V2 = (w.alloc (.deferred (some []))).alloc (.loop (rec .ready none)) := ⟨_, rfl⟩
  have hG2 : Gz No No w No V2 := by rw [hV2]; exact ((Gz.refl _ _ _).alloc _).alloc _
  have hs2 : V2.heap.size = D + 2 := by rw [hV2]; simp [hD]
  have hl2 : V2.heap[D + 1]? = some (.loop (rec .ready none)) := by
    rw [hV2]
    have := World.alloc_heap_new (w.alloc (.deferred (some []))) (.loop (rec .ready none))
    rwa [World.size_alloc, ← hD] at this
  have hd2 : V2.heap[D]? = some (.deferred (some [])) := by
    rw [hV2]
    have := World.alloc_heap_new w (.deferred (some []))
    rw [← hD] at this
    exact (Below.heap_alloc _ _ _ (by simp [hD])).trans this
  have hZ0 : ∀ k, Z0 k → k < D := fun k hk => by have := hI.lt _ _ _ h0 k hk; omega
  rw [← hV2]
  let J : List Spot → (Nat → Prop) → World → Prop := fun pre Zf U => ∃ Z, Zf = withLS Z D ∧ ¬ Z D ∧ ¬ Z (D + 1) ∧ U.heap[D]? = some (.deferred (some [])) ∧ U.heap[D + 1]? = some (.loop (rec .ready none)) ∧ I pre Z U
  let Jx : List Spot → (Nat → Prop) → World → Prop := fun pre Zf U => ∃ Z, Zf = withLS Z D ∧ ¬ Z D ∧ ¬ Z (D + 1) ∧ U.heap[D]? = some (.deferred (some [])) ∧ U.heap[D + 1]? = some (.loop (rec .done (some .ret))) ∧ Ix pre Z U
  have hA : AsksS (D + 1) X (spotsT [] false t) J Jx := by
    refine ⟨?_, ?_, ?_, ?_, ?_⟩
    · rintro pre Zf A B ⟨Z, rfl, z1, z2, hd, hl, hi⟩ hsz hk
      exact ⟨Z, rfl, z1, z2, (hk D (.inr (.inl rfl))).trans hd, (hk (D + 1) (.inr (.inr rfl))).trans hl, hI.frame _ _ _ _ hi hsz fun k hz => hk k (.inl hz)⟩
    · rintro pre Zf A B ⟨Z, rfl, z1, z2, hd, hl, hi⟩ hsz hk
      exact ⟨Z, rfl, z1, z2, (hk D (.inr (.inl rfl))).trans hd, (hk (D + 1) (.inr (.inr rfl))).trans hl, hIx.frame _ _ _ _ hi hsz fun k hz => hk k (.inl hz)⟩
    · rintro pre Zf A ⟨Z, rfl, z1, z2, hd, hl, hi⟩ k hk
      have h1 := (Array.getElem?_eq_some_iff.1 hl).1
      rcases hk with hk | hk | hk
      · exact hI.lt _ _ _ hi k hk
      · omega
      · omega
    · rintro pre Zf A ⟨Z, rfl, z1, z2, hd, hl, hi⟩ k hk
      have h1 := (Array.getElem?_eq_some_iff.1 hl).1
      rcases hk with hk | hk | hk
      · exact hIx.lt _ _ _ hi k hk
      · omega
      · omega
    · rintro pre x Ax cx Zf U ⟨Z, rfl, z1, z2, hd, hl, hi⟩ hTx hpre
      have hlt := (Array.getElem?_eq_some_iff.1 hl).1
      refine YieldAt.depth (m := n) (yield_rec hrec hl (by simp [hps]) ?_)
      obtain ⟨U1, hU1⟩ : ∃ U1, U1 = U.alloc (.cells (spotC x.t.kind x.t.n x.t.place x.t.name Ax x.t.parts.length (capF x.t.parts.length cx) x.free x.twin) 54) := ⟨_, rfl⟩
      have hk1 : ∀ k, k < U.heap.size → U1.heap[k]? = U.heap[k]? := fun k hk => by rw [hU1]; exact Below.heap_alloc _ _ _ hk
      have hs1 : U1.heap.size = U.heap.size + 1 := by rw [hU1]; simp
      have hL1 : Lies U1 U.heap.size 54 (spotC x.t.kind x.t.n x.t.place x.t.name Ax x.t.parts.length (capF x.t.parts.length cx) x.free x.twin) := by rw [hU1]; exact Lies.new _ _ _
      have ho1 : U1.os = U.os ∧ U1.tape = U.tape ∧ U1.output = U.output := by rw [hU1]; exact ⟨rfl, rfl, rfl⟩
      refine hassign (D + 1) x Ax cx U _ ?_
      rw [← hU1]
      refine ⟨(hk1 _ hlt).trans hl, ?_⟩
      obtain ⟨V, hV⟩ : ∃ V, V = U1.putObj (D + 1) (.loop (rec .busy none)) := ⟨_, rfl⟩
      rw [← hV]
      have hlV : V.heap[D + 1]? = some (.loop (rec .busy none)) := by rw [hV]; exact World.putObj_heap_same (by omega)
      have hdV : V.heap[D]? = some (.deferred (some [])) := by rw [hV]; exact (World.putObj_heap_other (by omega)).trans ((hk1 D (by omega)).trans hd)
      have hsV : V.heap.size = U.heap.size + 1 := by rw [hV, World.putObj_size]; exact hs1
      have hkV : ∀ k, k < U.heap.size → k ≠ D + 1 → V.heap[k]? = U.heap[k]? := fun k hku hk => by rw [hV]; exact (World.putObj_heap_other hk).trans (hk1 k hku)
      have hoV : V.os = U.os ∧ V.tape = U.tape ∧ V.output = U.output := by rw [hV]; exact ho1
      have hLV : Lies V U.heap.size 54 (spotC x.t.kind x.t.n x.t.place x.t.name Ax x.t.parts.length (capF x.t.parts.length cx) x.free x.twin) := by rw [hV]; exact (World.putObj_heap_other (by omega)).trans hL1
      have hltZ : ∀ k, Z k → k < U.heap.size := fun k hz => hI.lt _ _ _ hi k hz
      have hiV : I pre Z V := hI.frame _ _ _ _ hi (by omega) fun k hz => hkV k (hltZ k hz) (fun e => z2 (e ▸ hz))
      refine wpIn_mono (hbody (D + 1) pre x Ax cx Z U.heap.size V (by omega) (fun h => by have := hltZ _ h; omega) hLV (TIn.keep _ hTx fun q j hq hlt9 => ⟨World.cell?_of_block (hkV q hlt9 (by have := (hX q hq).1; omega)), hq⟩) hiV hpre) ?_
      have fin : ∀ (Z' : Nat → Prop) (V' : World) (st : LoopState) (pe : Option Code), Gz No Z V Z' V' → V'.heap[D + 1]? = some (.loop (rec .busy none)) ∧ ¬ Z' D ∧ ¬ Z' (D + 1) ∧ Gz No (withLS Z D) U (withLS Z' D) (V'.putObj (D + 1) (.loop (rec st pe))) ∧
          (V'.putObj (D + 1) (.loop (rec st pe))).heap[D]? = some (.deferred (some [])) ∧ (V'.putObj (D + 1) (.loop (rec st pe))).heap[D + 1]? = some (.loop (rec st pe)) := by
        intro Z' V' st pe hG
        have hsz := hG.size
        have z3 := hG.not (k := D) (by omega) z1
        have z4 := hG.not (k := D + 1) (by omega) z2
        refine ⟨hG.heap hlV z2 (fun h => h), z3, z4, ⟨hG.os.trans hoV.1, hG.tape.trans hoV.2.1, hG.output.trans hoV.2.2, by rw [World.putObj_size]; omega, fun k hk hz _ => ?_, fun k hz => ?_⟩, (World.putObj_heap_other (by omega)).trans (hG.heap hdV z1 (fun h => h)), World.putObj_heap_same (by omega)⟩
        · have hne : k ≠ D + 1 := fun e => hz (.inr (.inr e))
          exact (World.putObj_heap_other hne).trans ((hG.same k (by omega) (fun h => hz (.inl h)) (fun h => h)).trans (hkV k hk hne))
        · rcases hz with hz | hz | hz
          · rcases hG.ext k hz with h | h
            · exact .inl (.inl h)
            · exact .inr (by omega)
          · exact .inl (.inr (.inl hz))
          · exact .inl (.inr (.inr hz))
      intro e a3 V' hp
      cases e with
      | normal =>
        obtain ⟨Z', hG, hi'⟩ := hp
        obtain ⟨f1, z3, z4, f2, f3, f4⟩ := fin Z' V' .ready none hG
        refine ⟨f1, true, withLS Z' D, rfl, f2, fun _ => ⟨Z', rfl, z3, z4, f3, f4, ?_⟩, (fun h => by cases h)⟩
        exact hI.frame _ _ _ _ hi' (by rw [World.putObj_size]; exact Nat.le_refl _) fun k hz => World.putObj_heap_other (fun e => z4 (e ▸ hz))
      | ret =>
        obtain ⟨Z', hG, hi'⟩ := hp
        obtain ⟨f1, z3, z4, f2, f3, f4⟩ := fin Z' V' .done (some .ret) hG
        refine ⟨f1, false, withLS Z' D, rfl, f2, (fun h => by cases h), fun _ => ⟨Z', rfl, z3, z4, f3, f4, ?_⟩⟩
        exact hIx.frame _ _ _ _ hi' (by rw [World.putObj_size]; exact Nat.le_refl _) fun k hz => World.putObj_heap_other (fun e => z4 (e ▸ hz))
      | exit id => exact hp.elim
      | goto t => exact hp.elim
      | panic c => exact hp.elim
      | outgrown => exact hp.elim
  have hJ0 : J [] (withLS Z0 D) V2 := ⟨Z0, rfl, fun h => by have := hZ0 _ h; omega, fun h => by have := hZ0 _ h; omega, hd2, hl2, hI.frame _ _ _ _ h0 hG2.size fun k hk => hG2.same k (by have := hZ0 k hk; omega) (fun h => h) (fun h => h)⟩
  refine (spotsI_any (X := X) bx t A c (withLS Z0 D) V2 hA hd hs ht (hG2.lies L (fun h => h) (fun h => h)) (TIn.gz t hE hG2 fun q _ => ⟨fun h => h, fun h => h⟩) (fun q hq => ⟨by have := (hX q hq).1; omega, fun h => by
    rcases h with h | h | h
    · exact (hX q hq).2 h
    · have := (hX q hq).1; omega
    · have := (hX q hq).1; omega⟩) hJ0).mono ?_
  rintro e V ⟨hv, r, Zf, hG, h1, h2⟩
  refine ⟨hv, ?_⟩
  have hWV : Gz No Z0 w Zf V := ⟨hG.os.trans hG2.os, hG.tape.trans hG2.tape, hG.output.trans hG2.output, by have := hG.size; omega,
    fun k hk hz _ => (hG.same k (by omega) (fun h => by rcases h with h | h | h; exact hz h; omega; omega) (fun h => h)).trans (hG2.same k (by omega) (fun h => h) (fun h => h)),
    fun k hz => by rcases hG.ext k hz with (h | h | h) | h
                   · exact .inl h
                   · exact .inr (by omega)
                   · exact .inr (by omega)
                   · exact .inr (by omega)⟩
  cases r
  · obtain ⟨q, hq, Z, rfl, z1, z2, hd, hl, hi⟩ := h2 rfl
    have hlt := (Array.getElem?_eq_some_iff.1 hl).1
    refine .inr ⟨hl, hstop D Z _ q (by omega) (by rw [World.putObj_size]; omega) z1 hq (hWV.put _ (.inl (by omega))) ?_ ((World.putObj_heap_other (by omega)).trans hd)⟩
    exact hIx.frame _ _ _ _ hi (by rw [World.putObj_size]; exact Nat.le_refl _) fun k hz => World.putObj_heap_other (fun e => z2 (e ▸ hz))
  · obtain ⟨Z, rfl, z1, z2, hd, hl, hi⟩ := h1 rfl
    have hlt := (Array.getElem?_eq_some_iff.1 hl).1
    refine .inl ⟨hl, hdone D Z _ (by omega) (by rw [World.putObj_size]; omega) z1 (hWV.put _ (.inl (by omega))) ?_ ((World.putObj_heap_other (by omega)).trans hd)⟩
    exact hI.frame _ _ _ _ hi (by rw [World.putObj_size]; exact Nat.le_refl _) fun k hz => World.putObj_heap_other (fun e => z2 (e ▸ hz))
end Lx
end Go.Proofs.YtobdoahdjbmflaaGreatDoor
namespace Go.Proofs.YtobdoahdjbmflaaGreatDoor
open Go
namespace Lx
set_option maxRecDepth 100000
section
variable {P : Program} {ops : Array Oper} {Q : Exit → Act → World → Prop} {md : Region.Mode} {S : World → Prop} {last : Nat}
/-- One operation alone may come up, and its guard lets it. -/
theorem wpAnyK_oneW {i : Nat} {o : Oper} {fuel : Nat} {listed : Array Bool} {a : Act} {w : World} (ho : ops[i]? = some o) (hw : Region.wanted o (yielded ops a.tmps) = true) (hr : Region.ready md ops listed = [i])
    (h : ∀ K' : Act → World → Prop, Shut (∀ a w, (i ≠ last → S w) → ((i ≠ last → S w) → wpAnyK P md ops Q S last fuel (listed.setIfInBounds i true) a w) → K' a w) → Oper.wp P o a w K' Q) :
    wpAnyK P md ops Q S last (fuel + 1) listed a w := by
  refine ⟨fun h0 => (by rw [hr] at h0; cases h0), fun j hj => ?_⟩
  rw [hr] at hj
  obtain rfl : j = i := by simpa using hj
  refine wpOp_step ho fun K' hK => ?_
  rw [if_pos hw]
  exact h K' (fun a w hS hW => hK a w ⟨hS, hW hS⟩)
/-- Two operations may come up, and their guards let them. -/
theorem wpAnyK_bothW {i j : Nat} {oi oj : Oper} {fuel : Nat} {listed : Array Bool} {a : Act} {w : World} (hoi : ops[i]? = some oi) (hoj : ops[j]? = some oj) (hgi : Region.wanted oi (yielded ops a.tmps) = true) (hgj : Region.wanted oj (yielded ops a.tmps) = true) (hr : Region.ready md ops listed = [i, j])
    (h1 : ∀ K' : Act → World → Prop, Shut (∀ a w, (i ≠ last → S w) → ((i ≠ last → S w) → wpAnyK P md ops Q S last fuel (listed.setIfInBounds i true) a w) → K' a w) → Oper.wp P oi a w K' Q)
    (h2 : ∀ K' : Act → World → Prop, Shut (∀ a w, (j ≠ last → S w) → ((j ≠ last → S w) → wpAnyK P md ops Q S last fuel (listed.setIfInBounds j true) a w) → K' a w) → Oper.wp P oj a w K' Q) :
    wpAnyK P md ops Q S last (fuel + 1) listed a w := by
  refine ⟨fun h0 => (by rw [hr] at h0; cases h0), fun k hk => ?_⟩
  rw [hr] at hk
  rcases List.mem_cons.1 hk with rfl | hk
  · refine wpOp_step hoi fun K' hK => ?_
    rw [if_pos hgi]
    exact h1 K' (fun a w hS hW => hK a w ⟨hS, hW hS⟩)
  · obtain rfl : k = j := by simpa using hk
    refine wpOp_step hoj fun K' hK => ?_
    rw [if_pos hgj]
    exact h2 K' (fun a w hS hW => hK a w ⟨hS, hW hS⟩)
end
end Lx
end Go.Proofs.YtobdoahdjbmflaaGreatDoor
namespace Go.Proofs.YtobdoahdjbmflaaGreatDoor
open Go Go.RowKit
attribute [local go_sem] Oper.semAt_some
namespace Lx
set_option maxRecDepth 100000
theorem wp_append_own_at {P : Program} {w : World} {o : Oper} {a : Act} {K : Act → World → Prop} {Q : Exit → Act → World → Prop} (s x : Operand) (t : TypeId)
    (ho : o.op = .call { callee := .builtin .append, args := #[s, x], argTypes := #[t, t] })
    (base : Nat) (e : TypeId) (i : TypeInfo) (z : Value) (size bytes : Nat) (ht : P.underlying t = some (.slice e)) (hi : P.info? e = some i) (hz : i.zero = some z)
    (hsize : i.size = size) (hby : i.bytes = bytes) (hzs : z.cells.size = size) (hsz : 0 < size)
    (v : Value) (n : Nat) (xs : List Value) (hs : a.eval s = v) (hown : w.ownsRow base e size v n xs)
    (ad : Addr) (m c : Nat) (news : List Value) (hx : a.eval x = .slice (some ad) m c) (hl : news.length = m * size) (hnews : ∀ j u, news[j]? = some u → w.cell? (ad.add j) = some u) (h1 : ∀ u ∈ news, u.oneCell' = true)
    (h63 : n + m ≤ maxLen) (hbytes : (n + m) * bytes ≤ 140737488355328) (hbase : base ≤ w.heap.size)
    (h : ∀ v' w', w'.ownsRow base e size v' (n + m) (xs ++ news) → w.grownBy w' v.ownBlock → (v'.ownBlock = v.ownBlock ∨ v'.ownBlock = some w.heap.size) → K (a.put o.dst v') w') : o.wp P a w K Q := by
  obtain ⟨v', w', hr, h2, h3, h4, h5⟩ := run_append_own_at (P := P) w base t o.type e i z size bytes ht hi hz hsize hby hzs hsz v n xs hown ad m c news hl hnews h1 h63 hbytes hbase
  unfold Oper.wp execOp
  simp only [ho, resolve, invoke, builtin, Sem.run_bind, Sem.run_pure, Result.andThen_ok, List.map_toArray, List.map_cons, List.map_nil, hs, hx, hr]
  exact h v' w' h2 h3 h5
theorem ownsRow_heap2 {W W' : World} {b e s n : Nat} {v : Value} {xs : List Value} (h : W.ownsRow b e s v n xs) (hk : ∀ q, v.ownBlock = some q → W'.heap[q]? = W.heap[q]?) : W'.ownsRow b e s v n xs := by
  obtain ⟨hl, h | ⟨g, cap, cur, h1, h2, h3, h4⟩⟩ := h
  · exact ⟨hl, .inl h⟩
  · exact ⟨hl, .inr ⟨g, cap, cur, h1, h2, (hk g (by rw [h1]; rfl)).trans h3, h4⟩⟩
theorem ownsRow_some {W : World} {b e s n : Nat} {v : Value} {xs : List Value} (h : W.ownsRow b e s v (n + 1) xs) : ∃ g cap, v = .slice (some ⟨g, 0, none⟩) (n + 1) cap := by
  rcases h.2 with ⟨_, h2⟩ | ⟨g, cap, cur, h1, _⟩
  · omega
  · exact ⟨g, cap, h1⟩
/-- A row of constructors of one's own, its slice in a box. -/
def BoxA (S base : Nat) (l : List (ByteArray × Int)) (Z : Nat → Prop) (U : World) : Prop :=
  ∃ A c, Z = (fun q => q = S ∨ (Value.slice A l.length c).ownBlock = some q) ∧ Lies U S 34 #[.slice A l.length c] ∧ (S < base ∧ base ≤ U.heap.size) ∧ U.ownsRow base 43 2 (.slice A l.length c) l.length (cellsA l)
theorem BoxA.frame {S base : Nat} {l : List (ByteArray × Int)} {Z : Nat → Prop} {A B : World} (h : BoxA S base l Z A) (hsz : A.heap.size ≤ B.heap.size) (hk : ∀ k, Z k → B.heap[k]? = A.heap[k]?) : BoxA S base l Z B := by
  obtain ⟨A', c, rfl, L, hS, hr⟩ := h
  exact ⟨A', c, rfl, (hk S (.inl rfl)).trans L, ⟨hS.1, Nat.le_trans hS.2 hsz⟩, ownsRow_heap2 hr fun q hq => hk q (.inr hq)⟩
theorem BoxA.lt {S base : Nat} {l : List (ByteArray × Int)} {Z : Nat → Prop} {A : World} (h : BoxA S base l Z A) : ∀ k, Z k → k < A.heap.size := by
  obtain ⟨A', c, rfl, L, hS, hr⟩ := h
  intro k hk
  rcases hk with rfl | hk
  · exact L.lt
  · exact (hr.lt k hk).2
theorem BoxA.off {S base : Nat} {l : List (ByteArray × Int)} {Z : Nat → Prop} {A : World} (h : BoxA S base l Z A) {q : Nat} (hq : q < base) (hne : q ≠ S) : ¬ Z q := by
  obtain ⟨A', c, rfl, L, hS, hr⟩ := h
  exact fun hz => hz.elim hne fun h => by have := (hr.lt q h).1; omega
/-- What `tell` stands on: who was told, and the row. -/
structure TellS (T B bm LB base M : Nat) (l : List (ByteArray × Int)) (Z : Nat → Prop) (U : World) : Prop where
  z : ∃ Zb, Z = (fun q => Zb q ∨ q = bm ∨ q = B ∨ q = T) ∧ BoxA LB base l Zb U
  ct : U.cell? ⟨T, 0, none⟩ = some (twinF B)
  cb : U.cell? ⟨B, 0, none⟩ = some (.map (some bm))
  m : ∃ (N : Nat) (C : ByteArray → Int), MapS U bm N C ∧ N ≤ M ∧ l.length ≤ N ∧ ∀ s, 0 ≤ C s ∧ C s ≤ N ∧ (C s = 0 ↔ ofN l s < 0)
  nn : ∀ p ∈ l, 0 ≤ p.2
  lt : T < base ∧ B < base ∧ bm < base ∧ LB < base
  ne : B ≠ bm ∧ T ≠ bm ∧ T ≠ B ∧ LB ≠ T ∧ LB ≠ B ∧ LB ≠ bm
theorem TellS.frame {T B bm LB base M : Nat} {l : List (ByteArray × Int)} {Z : Nat → Prop} {U V : World} (h : TellS T B bm LB base M l Z U) (hsz : U.heap.size ≤ V.heap.size) (hk : ∀ k, Z k → V.heap[k]? = U.heap[k]?) : TellS T B bm LB base M l Z V := by
  obtain ⟨⟨Zb, rfl, hb⟩, ct, cb, ⟨N, C, hM, hN⟩, nn, lt, ne⟩ := h
  exact ⟨⟨Zb, rfl, hb.frame hsz fun k hz => hk k (.inl hz)⟩, (World.cell?_of_block (hk T (.inr (.inr (.inr rfl))))).trans ct, (World.cell?_of_block (hk B (.inr (.inr (.inl rfl))))).trans cb,
    ⟨N, C, hM.heap (hk bm (.inr (.inl rfl))), hN⟩, nn, lt, ne⟩
theorem TellS.below {T B bm LB base M : Nat} {l : List (ByteArray × Int)} {Z : Nat → Prop} {U : World} (h : TellS T B bm LB base M l Z U) : ∀ k, Z k → k < U.heap.size := by
  obtain ⟨⟨Zb, rfl, hb⟩, ct, cb, ⟨N, C, hM, hN⟩, nn, lt, ne⟩ := h
  have h1 : base ≤ U.heap.size := by obtain ⟨_, _, _, _, hS, _⟩ := hb; exact hS.2
  rintro k (hk | rfl | rfl | rfl)
  · exact hb.lt k hk
  all_goals omega
theorem ofN_snoc (l : List (ByteArray × Int)) (s v : ByteArray) (n : Int) (hn : 0 ≤ n) (hl : ∀ p ∈ l, 0 ≤ p.2) : ofN (l ++ [(s, n)]) v < 0 ↔ ofN l v < 0 ∧ v ≠ s := by
  induction l with
  | nil =>
    rw [List.nil_append, ofN, ofN, ofN]
    by_cases h : s = v
    · subst h; simp; omega
    · have h' : ¬ v = s := fun e => h e.symm
      simp [h, h']
  | cons a r ih =>
    obtain ⟨x, y⟩ := a
    rw [List.cons_append, ofN, ofN]
    by_cases h : x = v
    · subst h
      rw [if_pos rfl, if_pos rfl]
      have hy : 0 ≤ y := hl (x, y) List.mem_cons_self
      constructor <;> intro h <;> omega
    · rw [if_neg h, if_neg h]; exact ih fun p hp => hl p (List.mem_cons_of_mem _ hp)
theorem cellsA_snoc (l : List (ByteArray × Int)) (s : ByteArray) (n : Int) : cellsA (l ++ [(s, n)]) = cellsA l ++ [.string s, .int .i64 n] := by simp [cellsA]
set_option maxHeartbeats 4000000 in
theorem tell_any (T B bm LB base M : Nat) (l : List (ByteArray × Int)) (Z : Nat → Prop) (s : ByteArray) (n : Int) (w : World) (h : TellS T B bm LB base M l Z w) (hM : M ≤ 1000000000) (hn : 0 ≤ n) (hs : s.size ≤ 140737488351232) :
    Calls Tryz.prog 40 #[.string s, .int .i64 n, .pointer (some ⟨T, 0, none⟩), .pointer (some ⟨LB, 0, none⟩)] w fun e w' => e = .returned (.tuple #[]) ∧ ∃ Z', Gz No Z w Z' w' ∧ TellS T B bm LB base (M + 1) (onceN l [(s, n)]) Z' w' := by
  obtain ⟨⟨Zb, rfl, hb⟩, ct, cb, ⟨N, C, hMS, hN, hlN, hC⟩, nn, ⟨t1, t2, t3, t4⟩, n1, n2, n3, n4, n5, n6⟩ := h
  have hCs := hC s
  have hT := twins1_any B bm N C s w cb n1 hMS (by omega) hs ⟨hCs.1, by omega⟩
  have hbs := hb
  obtain ⟨A, c, rfl, L, hS, hrow⟩ := hb
  have hQ : ∀ w1, w.grownBy w1 (some bm) → MapS w1 bm (N + 1) (fun v => if v = s then C s + 1 else C v) →
      w1.cell? ⟨T, 0, none⟩ = some (twinF B) ∧ w1.cell? ⟨B, 0, none⟩ = some (.map (some bm)) ∧ w1.cell? ⟨LB, 0, none⟩ = some (.slice A l.length c) ∧ w1.frozen? ⟨LB, 0, none⟩ = false ∧ Lies w1 LB 34 #[.slice A l.length c] ∧ w1.ownsRow base 43 2 (.slice A l.length c) l.length (cellsA l) ∧ base ≤ w1.heap.size := fun w1 hg _ => by
    have hk : ∀ k, k < w.heap.size → k ≠ bm → w1.heap[k]? = w.heap[k]? := fun k hk hne => hg.block k hk (fun e => by injection e with e; exact hne e)
    have L2 : Lies w1 LB 34 #[.slice A l.length c] := (hk LB L.lt n6).trans L
    exact ⟨(World.cell?_of_block (hk T (by omega) n2)).trans ct, (World.cell?_of_block (hk B (by omega) n1)).trans cb, L2.cell 0, L2.frozen 0, L2, ownsRow_heap2 hrow fun q hq => hk q (hrow.lt q hq).2 (fun e => by have := (hrow.lt q hq).1; omega), by have := hg.size; omega⟩
  by_cases ho : ofN l s < 0
  · have hc0 : C s = 0 := hCs.2.2.2 ho
    have hT2 : Calls Tryz.prog 49 #[.string s, .pointer (some ⟨B, 0, none⟩)] w fun e w' => e = .returned (.bool false) ∧ MapS w' bm (N + 1) (fun v => if v = s then C s + 1 else C v) ∧ w.grownBy w' (some bm) := hT.mono fun e w' ⟨h1, h2, h3⟩ => ⟨by rw [h1, hc0]; rfl, h2, h3⟩
    have HQ := Lib.hid hQ
    clear hQ hT hMS cb L
    go_enter Tryz.func40, Tryz.ntmps40
    go_upto_region 1 with (go_at_call 49; refine hT2.mono ?_; rintro e w1 ⟨rfl, hM1, hg1⟩)
    obtain ⟨x0, x1, y0, y1, y2, hrow1, hbase1⟩ := HQ.out w1 hg1 hM1
    clear hrow
    obtain ⟨i0, hi0, hz0, hz1, hz2⟩ := info_partsS infoA
    obtain ⟨m, hm⟩ : ∃ m, m = l.length := ⟨_, rfl⟩
    have HM := Lib.hid hm
    rw [← hm] at y0 y2 hrow1 hlN
    clear hm
    have HSt : Hid (∀ V, Below w1.heap.size w1 V → V.cell? ⟨LB, 0, none⟩ = some (.slice A m c)) := Lib.hid fun V hv => (World.cell?_of_block (hv.block LB y2.lt)).trans y0
    refine wp_region_K (S := fun V => V.cell? ⟨LB, 0, none⟩ = some (.slice A m c)) 7 rfl (by exact y0) (fun hSs => ?_)
    change wpAnyK _ _ _ _ _ _ 8 (Array.replicate 8 false) _ _
    refine wpAnyK_take (i := 0) (oi := ⟨some 10, _, _, _, _, _⟩) (v := .slice A m c) rfl (by kernel_rfl) (by kernel_rfl) (by kernel_rfl) (by kernel_rfl) (fun _ _ _ h => h) (.inl ⟨by kernel_rfl, fun W hW => by go_simp⟩) hSs ?_
    try simp only [Act.put, List.setIfInBounds_toArray, List.set_cons_zero, List.set_cons_succ]
    refine wpAnyK_take (i := 1) (oi := ⟨some 11, _, _, _, _, _⟩) (v := .string s) rfl (by kernel_rfl) (by kernel_rfl) (by kernel_rfl) (by kernel_rfl) (fun _ _ _ h => h) (.inl ⟨by kernel_rfl, fun W hW => by kernel_rfl⟩) hSs ?_
    try simp only [Act.put, List.setIfInBounds_toArray, List.set_cons_zero, List.set_cons_succ]
    refine wpAnyK_take (i := 3) (oi := ⟨some 13, _, _, _, _, _⟩) (v := .int .i64 n) rfl (by kernel_rfl) (by kernel_rfl) (by kernel_rfl) (by kernel_rfl) (fun _ _ _ h => h) (.inl ⟨by kernel_rfl, fun W hW => by kernel_rfl⟩) hSs ?_
    try simp only [Act.put, List.setIfInBounds_toArray, List.set_cons_zero, List.set_cons_succ]
    refine wpAnyK_one (i := 2) rfl rfl (by kernel_rfl) (fun K hK => ?_)
    go_simp
    refine (clone_any s w1.drew (by omega)).mono ?_
    rintro e w2 ⟨rfl, hb2⟩
    have hb2' : Below w1.heap.size w1 w2 := ((Below.refl _ w1).drew).trans hb2
    have hrow2 := own_below hrow1 hb2' (Nat.le_refl _)
    have L2 := y2.below hb2' y2.lt
    refine hK.out _ _ (fun _ => HSt.out _ hb2') (fun hS9 => ?_)
    have hS2 := hS9 (by decide)
    clear hK K hS9
    try simp only [Act.put, List.setIfInBounds_toArray, List.set_cons_zero, List.set_cons_succ]
    refine wpAnyK_take (i := 4) (oi := ⟨some 14, _, _, _, _, _⟩) (v := .agg #[.string s, .int .i64 n]) rfl (by kernel_rfl) (by kernel_rfl) (by kernel_rfl) (by kernel_rfl) (fun _ _ _ h => h) (.inl ⟨by kernel_rfl, fun W hW => by go_simp⟩) hS2 ?_
    try simp only [Act.put, List.setIfInBounds_toArray, List.set_cons_zero, List.set_cons_succ]
    refine wpAnyK_one (i := 5) rfl rfl (by kernel_rfl) (fun K hK => ?_)
    go_simp
    have hs2 := hb2'.size
    have hb3 : Below w1.heap.size w1 (w2.alloc (.cells #[.string s, .int .i64 n] 43)) := Below.alloc hb2' hb2'.size _
    have L3 := L2.old (.cells #[.string s, .int .i64 n] 43)
    have hl3 : Lies (w2.alloc (.cells #[.string s, .int .i64 n] 43)) w2.heap.size 43 #[.string s, .int .i64 n] := Lies.new _ _ _
    have hrow3 := hrow2.alloc (.cells #[.string s, .int .i64 n] 43)
    refine hK.out _ _ (fun _ => HSt.out _ hb3) (fun hS9 => ?_)
    have hS3 := hS9 (by decide)
    clear hK K hS9
    try simp only [Act.put, List.setIfInBounds_toArray, List.set_cons_zero, List.set_cons_succ]
    refine wpAnyK_one (i := 6) rfl rfl (by kernel_rfl) (fun K hK => ?_)
    refine wp_append_own_at _ _ 34 rfl base 43 i0 _ 2 24 Tryz.underlying34 hi0 hz0 hz1 hz2 rfl (by omega) (.slice A m c) m (cellsA l) rfl hrow3
      ⟨w2.heap.size, 0, none⟩ 1 1 [.string s, .int .i64 n] rfl rfl (World.news_of_block (cs := #[.string s, .int .i64 n]) (t := 43) (fr := (0, 0)) hl3) (by simp [Value.oneCell'])
      (by simp only [maxLen]; omega) (by omega) (by rw [World.size_alloc]; omega) ?_
    intro v' w4 hown4 hg4 hat
    obtain ⟨g', cap', rfl⟩ := ownsRow_some hown4
    have hneS : ∀ q, (Value.slice A m c).ownBlock = some q → q ≠ LB := fun q hq => by have := (hrow1.lt q hq).1; omega
    have L4 : Lies w4 LB 34 #[.slice A m c] := (hg4.block LB L3.lt (fun e => hneS _ e.symm rfl)).trans L3
    have z0 := L4.cell 0
    have z1 := L4.frozen 0
    refine hK.out _ _ (fun _ => by simpa using z0) (fun hS9 => ?_)
    clear hK K hS9
    try simp only [Act.put, List.setIfInBounds_toArray]
    refine wpAnyK_one (i := 7) rfl rfl (by kernel_rfl) (fun K hK => ?_)
    go_simp
    refine hK.out _ _ (fun h => absurd rfl h) (fun _ => ?_)
    clear hK K
    try simp only [Act.put, List.setIfInBounds_toArray, List.set_cons_zero, List.set_cons_succ]
    refine wpAnyK_done (by kernel_rfl) ?_ _
    go_wp2_with fail
    go_end0
    have hon : onceN l [(s, n)] = l ++ [(s, n)] := by rw [onceN, if_pos ho, onceN]
    have hlen : (l ++ [(s, n)]).length = m + 1 := by rw [List.length_append, HM.out]; rfl
    have hg'1 := (hown4.lt g' rfl).1
    have hg43 := hg4.size
    rw [World.size_alloc] at hg43
    rw [hon]
    have hs1 := hg1.size
    have hsz : (w4.setCell ⟨LB, 0, none⟩ (.slice (some ⟨g', 0, none⟩) (m + 1) cap')).heap.size = w4.heap.size := by simp [World.setCell]
    have hk4 : ∀ k, k < w1.heap.size → k ≠ LB → (Value.slice A m c).ownBlock ≠ some k → (w4.setCell ⟨LB, 0, none⟩ (.slice (some ⟨g', 0, none⟩) (m + 1) cap')).heap[k]? = w1.heap[k]? := fun k hk h1 h2 =>
      (Below.heap_setCell _ _ _ _ h1).trans ((hg4.block k (by rw [World.size_alloc]; omega) (fun e => h2 e.symm)).trans (hb3.block k hk))
    have hnot : ∀ k, k < base → (Value.slice A m c).ownBlock ≠ some k := fun k hk e => by have := (hrow1.lt k e).1; omega
    refine ⟨rfl, fun q => (q = LB ∨ (Value.slice (some ⟨g', 0, none⟩) (m + 1) cap').ownBlock = some q) ∨ q = bm ∨ q = B ∨ q = T, ?_, ⟨?_, ?_, ?_, ?_, ?_, ⟨t1, t2, t3, t4⟩, n1, n2, n3, n4, n5, n6⟩⟩
    · refine ⟨hg4.os.trans (hb3.os.trans hg1.os), hg4.tape.trans (hb3.tape.trans hg1.tape), hg4.output.trans (hb3.output.trans hg1.output), by rw [hsz]; omega, fun k hk hz _ => ?_, fun k hz => ?_⟩
      · exact (hk4 k (by omega) (fun e => hz (.inl (.inl e))) (fun e => hz (.inl (.inr (by rw [← HM.out]; exact e))))).trans (hg1.block k hk (fun e => hz (.inr (.inl (by injection e with e)))))
      · rcases hz with (hz | hz) | hz | hz | hz
        · exact .inl (.inl (.inl hz))
        · rcases hat with hat | hat
          · exact .inl (.inl (.inr (by rw [← HM.out]; exact hat ▸ hz)))
          · rw [hat] at hz
            injection hz with hz
            rw [World.size_alloc] at hz
            exact .inr (by omega)
        · exact .inl (.inr (.inl hz))
        · exact .inl (.inr (.inr (.inl hz)))
        · exact .inl (.inr (.inr (.inr hz)))
    · refine ⟨_, rfl, some ⟨g', 0, none⟩, cap', by rw [hlen], ?_, ⟨t4, by rw [hsz]; omega⟩, ?_⟩
      · rw [hlen]
        have := L4.put 0 (.slice (some ⟨g', 0, none⟩) (m + 1) cap')
        simpa using this
      · rw [hlen, cellsA_snoc]
        exact ownsRow_heap2 hown4 fun q hq => Below.heap_setCell _ _ _ _ (by show q ≠ LB; injection hq with hq; simp at hq; omega)
    · exact (World.cell?_of_block (hk4 T (by omega) (fun e => n4 e.symm) (hnot T t1))).trans x0
    · exact (World.cell?_of_block (hk4 B (by omega) (fun e => n5 e.symm) (hnot B t2))).trans x1
    · refine ⟨N + 1, _, hM1.heap (hk4 bm hM1.lt (fun e => n6 e.symm) (hnot bm t3)), by omega, by rw [hlen]; omega, fun v => ?_⟩
      have hv := hC v
      by_cases e : v = s
      · subst e
        simp only [if_pos]
        refine ⟨by omega, by omega, ⟨fun h => by omega, fun h => ?_⟩⟩
        exact absurd rfl ((ofN_snoc l v v n hn nn).1 h).2
      · simp only [if_neg e]
        refine ⟨hv.1, by omega, hv.2.2.trans ⟨fun h => (ofN_snoc l s v n hn nn).2 ⟨h, e⟩, fun h => ((ofN_snoc l s v n hn nn).1 h).1⟩⟩
    · intro p hp
      rcases List.mem_append.1 hp with hp | hp
      · exact nn p hp
      · simp at hp; subst hp; exact hn
  · have hc0 : C s ≠ 0 := fun e => ho (hCs.2.2.1 e)
    have hT2 : Calls Tryz.prog 49 #[.string s, .pointer (some ⟨B, 0, none⟩)] w fun e w' => e = .returned (.bool true) ∧ MapS w' bm (N + 1) (fun v => if v = s then C s + 1 else C v) ∧ w.grownBy w' (some bm) := hT.mono fun e w' ⟨h1, h2, h3⟩ => ⟨by rw [h1, decide_eq_true (by omega)], h2, h3⟩
    have HQ := Lib.hid hQ
    clear hQ hT hMS cb L
    go_enter Tryz.func40, Tryz.ntmps40
    go_wp2_with (go_at_call 49; refine hT2.mono ?_; rintro e w1 ⟨rfl, hM1, hg1⟩)
    go_end0
    have hon : onceN l [(s, n)] = l := by rw [onceN, if_neg (fun h => by omega), onceN]
    obtain ⟨x0, x1, y0, y1, y2, hrow1, hbase1⟩ := HQ.out w1 hg1 hM1
    rw [hon]
    refine ⟨rfl, _, ⟨hg1.os, hg1.tape, hg1.output, hg1.size, fun k hk hz _ => hg1.block k hk (fun e => hz (.inr (.inl (by injection e with e)))), fun k hz => .inl hz⟩, ⟨⟨_, rfl, A, c, rfl, y2, ⟨t4, hbase1⟩, hrow1⟩, x0, x1, ?_, nn, ⟨t1, t2, t3, t4⟩, n1, n2, n3, n4, n5, n6⟩⟩
    refine ⟨N + 1, _, hM1, by omega, by omega, fun v => ?_⟩
    have hv := hC v
    by_cases e : v = s
    · subst e
      simp only [if_pos]
      refine ⟨by omega, by omega, ⟨fun h => by omega, fun h => by omega⟩⟩
    · simp only [if_neg e]
      exact ⟨hv.1, by omega, hv.2.2⟩
end Lx
end Go.Proofs.YtobdoahdjbmflaaGreatDoor
