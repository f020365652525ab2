/-
  Texts that lie one behind the other: ScG ScK ScL Again.
-/
import Derived.Test.YtobdoahdjbmflaaGreatDoorC6
import Derived.Test.YtobdoahdjbmflaaGreatDoorC3
import Derived.Sort.CutIn
namespace Go.Proofs.YtobdoahdjbmflaaGreatDoor
open Go Go.RowKit
attribute [local go_sem] Oper.semAt_some
namespace Lx
set_option maxRecDepth 100000
theorem wideS_fn (f : FuncId) : Fence.wide.fn f = True := rfl
theorem wideS_depth : Fence.wide.depth = none := rfl
attribute [local go_sem] wideS_fn wideS_depth run_store_fnS
mutual
theorem okS : ∀ (t : Tr) (b : List ByteArray) (tw : Bool), okT t → ∀ x ∈ spotsT b tw t, okT x.t
  | .node k s n a l, b, tw, h, x, hx => by
    rw [spotsT] at hx
    rcases List.mem_cons.1 hx with rfl | hx
    · exact h
    · rw [okT] at h
      exact okSL l k n s l b 0 [] h.2 x hx
theorem okSL : ∀ (l : List Tr) (k n : Int) (s : ByteArray) (all : List Tr) (b : List ByteArray) (i : Nat) (ah : List ByteArray), okL l → ∀ x ∈ spotsL k n s all b i ah l, okT x.t
  | [], k, n, s, all, b, i, ah, _, x, hx => by rw [spotsL] at hx; simp at hx
  | t :: r, k, n, s, all, b, i, ah, h, x, hx => by
    rw [okL] at h
    rw [spotsL] at hx
    split at hx
    · exact okSL r k n s all b _ _ h.2 x hx
    · rcases List.mem_append.1 hx with hx | hx
      · exact okS t _ _ h.1 x hx
      · exact okSL r k n s all b _ _ h.2 x hx
end
mutual
theorem lenS : ∀ (t : Tr) (b : List ByteArray) (tw : Bool), (spotsT b tw t).length ≤ sizeT t
  | .node k s n a l, b, tw => by
    rw [spotsT, List.length_cons, sizeT]
    have := lenSL l k n s l b 0 []
    omega
theorem lenSL : ∀ (l : List Tr) (k n : Int) (s : ByteArray) (all : List Tr) (b : List ByteArray) (i : Nat) (ah : List ByteArray), (spotsL k n s all b i ah l).length ≤ sizeL l
  | [], k, n, s, all, b, i, ah => by rw [spotsL]; simp
  | t :: r, k, n, s, all, b, i, ah => by
    rw [spotsL, sizeL]
    split
    · have := lenSL r k n s all b (i + 1) ah
      omega
    · rw [List.length_append]
      have h1 := lenS t (innerN k n s i all b) (decide (t.kind = 8) && inN ah t.name)
      have h2 := lenSL r k n s all b (i + 1) (if t.kind = 8 then ah ++ [t.name] else ah)
      omega
end
theorem mem_of_pre {pre : List Spot} {x : Spot} {l : List Spot} (h : pre ++ [x] <+: l) : x ∈ l ∧ pre.length + 1 ≤ l.length := by
  obtain ⟨r, rfl⟩ := h
  exact ⟨by simp, by simp⟩
theorem own_ok {t : Tr} (h : okT t) : (t.kind = 8 → 0 ≤ t.n) := by
  obtain ⟨k, s, n, a, l⟩ := t
  rw [okT] at h
  exact fun e => (h.1.1 e).1
theorem metsS_snoc (pre : List Spot) (x : Spot) : metsS (pre ++ [x]) = metsS pre ++ (if 0 ≤ ownN x.t.kind x.t.n x.t.parts then [(x.t.name, ownN x.t.kind x.t.n x.t.parts)] else []) := by
  rw [metsS_app]
  congr 1
  unfold metsS
  by_cases h : 0 ≤ ownN x.t.kind x.t.n x.t.parts
  · simp [h]
  · simp [h]
theorem name_le {w : World} {X : Nat → Prop} {t : Tr} {A : Option Addr} (h : TIn w X t A) : t.name.size ≤ 140737488351232 ∧ t.parts.length ≤ 140737488351232 := by
  obtain ⟨k, s, n, a, l⟩ := t
  rw [TIn] at h
  exact ⟨h.1, h.2.1⟩
/-- What the range in `cons` stands on. -/
def ConsI (F T B bm LB base : Nat) : List Spot → (Nat → Prop) → World → Prop := fun pre Z U =>
  F < base ∧ ∃ Zt, Z = (fun q => Zt q ∨ q = F) ∧ TellS T B bm LB base (2 + pre.length) (onceN heads5 (metsS pre)) Zt U ∧ ¬ Zt F ∧ U.cell? ⟨F, 0, none⟩ = some (.func (.func 40) #[] #[.pointer (some ⟨T, 0, none⟩), .pointer (some ⟨LB, 0, none⟩)])
theorem lies_nextS (w : World) (t : TypeId) (cs : Array Value) (g : Nat) (hg : g = w.heap.size) : Lies (w.alloc (.cells cs t)) g t cs := by subst hg; exact Lies.new w t cs
theorem five_cellsS {w : World} {g : Nat} {t : TypeId} {a b c d e : Value} (L : Lies w g t #[a, b, c, d, e]) : w.cell? ⟨g, 0, none⟩ = some a ∧ w.cell? ⟨g, 1, none⟩ = some b ∧ w.cell? ⟨g, 2, none⟩ = some c ∧ w.cell? ⟨g, 3, none⟩ = some d ∧ w.cell? ⟨g, 4, none⟩ = some e := ⟨L.cell 0, L.cell 1, L.cell 2, L.cell 3, L.cell 4⟩
theorem gz_belowS {Z0 Z' : Nat → Prop} {w w1 V : World} (hb : Below w.heap.size w w1) (hZ : ∀ k, Z0 k → w.heap.size ≤ k) (h : Gz No Z0 w1 Z' V) : Below w.heap.size w V :=
  ⟨h.os.trans hb.os, h.tape.trans hb.tape, h.output.trans hb.output, Nat.le_trans hb.size h.size, fun k hk => (h.same k (by have := hb.size; omega) (fun hz => by have := hZ k hz; omega) (fun h => h)).trans (hb.block k hk)⟩
theorem below_putS {B : Nat} {w V : World} (h : Below B w V) {D : Nat} {o' : Obj} (hD : B ≤ D) : Below B w (V.putObj D o') :=
  ⟨h.os, h.tape, h.output, by rw [World.putObj_size]; exact h.size, fun k hk => (World.putObj_heap_other (by omega)).trans (h.block k hk)⟩
theorem tin_ltS {w : World} {t : Tr} {A : Option Addr} (h : TIn w Any t A) : TIn w (· < w.heap.size) t A := TIn.wide t h fun _ _ hlt => hlt
theorem Gz.plusS {Z Z' : Nat → Prop} {A B : World} {F : Nat} (h : Gz No Z A Z' B) : Gz No (fun q => Z q ∨ q = F) A (fun q => Z' q ∨ q = F) B :=
  ⟨h.os, h.tape, h.output, h.size, fun k hk hz he => h.same k hk (fun h' => hz (.inl h')) he, fun k hz => hz.elim (fun h' => (h.ext k h').imp (fun h' => .inl h') id) (fun h' => .inl (.inr h'))⟩
theorem TellS.mono {T B bm LB base M M' : Nat} {l : List (ByteArray × Int)} {Z : Nat → Prop} {U : World} (h : TellS T B bm LB base M l Z U) (hM : M ≤ M') : TellS T B bm LB base M' l Z U := by
  obtain ⟨z, ct, cb, ⟨N, C, h1, h2, h3⟩, nn, lt, ne⟩ := h
  exact ⟨z, ct, cb, ⟨N, C, h1, by omega, h3⟩, nn, lt, ne⟩
theorem nowhereS : StandsS (fun _ _ _ => False) := ⟨fun _ _ _ _ h _ _ => h, fun _ _ _ h => h.elim⟩
theorem ConsI.stands (F T B bm LB base : Nat) : StandsS (ConsI F T B bm LB base) := by
  refine ⟨?_, ?_⟩
  · rintro pre Z A B' ⟨hF, Zt, rfl, h, hn, hc⟩ hsz hk
    exact ⟨hF, Zt, rfl, h.frame hsz fun k hz => hk k (.inl hz), hn, (World.cell?_of_block (hk F (.inr rfl))).trans hc⟩
  · rintro pre Z A ⟨hF, Zt, rfl, h, hn, hc⟩ k hk
    rcases hk with hk | rfl
    · exact h.below k hk
    · exact World.block_lt_of_cell? A _ hc
set_option maxHeartbeats 4000000 in
theorem cons_any (t : Tr) (A : Option Addr) (c : Nat) (w : World) (hd : depthT t ≤ 4000) (hs : sizeT t ≤ 1000000) (ht : okT t) (hI : TIn w Any t A) :
    Calls Tryz.prog 26 #[tv t A c] w fun e w' => ∃ A' c', e = .returned (.slice A' (consT t).length c') ∧ w'.ownsRow w.heap.size 43 2 (.slice A' (consT t).length c') (consT t).length (cellsA (consT t)) ∧ Below w.heap.size w w' := by
  show Calls Tryz.prog 26 #[.agg #[.int .i64 t.kind, .string t.name, .int .i64 t.n, .int .i64 t.place, .slice A t.parts.length (capF t.parts.length c)]] w _
  refine (callsIn_wide (n := 0)).1 ?_
  refine callsIn_of_wp_marks Tryz.func26 rfl trivial ?_ rfl
  simp only [Tryz.ntmps26, List.size_toArray, List.length_cons, List.length_nil, Nat.reduceAdd, Nat.reduceSub, Array.replicate_succ, Array.replicate_zero, List.push_toArray, List.append_toArray, List.nil_append, List.cons_append]
  gi_upto_region 2 with fail
  obtain ⟨w1, hw1⟩ : ∃ w1, w1 = ((w.alloc (.cells #[.int .i64 t.kind, .string t.name, .int .i64 t.n, .int .i64 t.place, .slice A t.parts.length (capF t.parts.length c)] 24)).alloc (.cells #[.slice none 0 0] 34)) := ⟨_, rfl⟩
  have hs1 : w1.heap.size = w.heap.size + 2 := by rw [hw1]; simp
  have hb1 : Below w.heap.size w w1 := by rw [hw1]; exact ((Below.refl _ w).alloc (Nat.le_refl _) _).alloc (by simp) _
  have L0 : Lies w1 w.heap.size 24 #[.int .i64 t.kind, .string t.name, .int .i64 t.n, .int .i64 t.place, .slice A t.parts.length (capF t.parts.length c)] := by rw [hw1]; exact (Lies.new _ _ _).old _
  have L1 : Lies w1 (w.heap.size + 1) 34 #[.slice none 0 0] := by rw [hw1]; exact lies_nextS _ _ _ _ (by simp)
  rw [← hw1]
  clear hw1
  have hTw : Calls Tryz.prog 30 #[] w1 fun e w' => ∃ (B bm : Nat), e = .returned (.func (.func 49) #[] #[.pointer (some ⟨B, 0, none⟩)]) ∧ w'.cell? ⟨B, 0, none⟩ = some (.map (some bm)) ∧ MapS w' bm 0 (countN []) ∧ w1.heap.size ≤ bm ∧ w1.heap.size ≤ B ∧ B ≠ bm ∧ B < w'.heap.size ∧ Below w1.heap.size w1 w' := twins_any w1
  gi_upto_region 3 with (gi_at_call 30; refine (callsIn_wide.2 hTw).mono ?_; rintro e w2 ⟨B, bm, rfl, cB, hM, hbm, hB, hne, hBlt, hb2⟩; have L4 := Lies.new w2 57 #[.nilFunc]; have x0 : (w2.alloc (.cells #[.nilFunc] 57)).cell? ⟨w2.heap.size, 0, none⟩ = some .nilFunc := L4.cell 0; have x1 : (w2.alloc (.cells #[.nilFunc] 57)).frozen? ⟨w2.heap.size, 0, none⟩ = false := L4.frozen 0)
  clear x0 x1 L4 hTw
  obtain ⟨w3, hw3⟩ : ∃ w3, w3 = w2.alloc (.cells #[.func (.func 49) #[] #[.pointer (some ⟨B, 0, none⟩)]] 57) := ⟨_, rfl⟩
  have hs3 : w3.heap.size = w2.heap.size + 1 := by rw [hw3]; simp
  have hb3 : Below w2.heap.size w2 w3 := by rw [hw3]; exact (Below.refl _ _).alloc (Nat.le_refl _) _
  have LT : Lies w3 w2.heap.size 57 #[twinF B] := by rw [hw3]; exact Lies.new _ _ _
  rw [← hw3]
  clear hw3
  have L4 := Lies.new w3 75 #[.nilFunc]
  have x0 : (w3.alloc (.cells #[.nilFunc] 75)).cell? ⟨w3.heap.size, 0, none⟩ = some .nilFunc := L4.cell 0
  have x1 : (w3.alloc (.cells #[.nilFunc] 75)).frozen? ⟨w3.heap.size, 0, none⟩ = false := L4.frozen 0
  gi_upto_region 4 with fail
  clear x0 x1 L4
  obtain ⟨w4, hw4⟩ : ∃ w4, w4 = w3.alloc (.cells #[.func (.func 40) #[] #[.pointer (some ⟨w2.heap.size, 0, none⟩), .pointer (some ⟨w.heap.size + 1, 0, none⟩)]] 75) := ⟨_, rfl⟩
  have hs4 : w4.heap.size = w2.heap.size + 2 := by rw [hw4]; simp [hs3]
  have hb4 : Below w3.heap.size w3 w4 := by rw [hw4]; exact (Below.refl _ _).alloc (Nat.le_refl _) _
  have LF : Lies w4 w3.heap.size 75 #[.func (.func 40) #[] #[.pointer (some ⟨w2.heap.size, 0, none⟩), .pointer (some ⟨w.heap.size + 1, 0, none⟩)]] := by rw [hw4]; exact Lies.new _ _ _
  rw [← hw4]
  clear hw4
  have hs2 := hb2.size
  have hbw4 : Below w.heap.size w w4 := (hb1.trans (hb2.mono (by omega))).trans ((hb3.mono (by omega)).trans (hb4.mono (by omega)))
  have hk14 : ∀ k, k < w1.heap.size → w4.heap[k]? = w1.heap[k]? := fun k hk => (hb4.block k (by omega)).trans ((hb3.block k (by omega)).trans (hb2.block k hk))
  have hk24 : ∀ k, k < w2.heap.size → w4.heap[k]? = w2.heap[k]? := fun k hk => (hb4.block k (by omega)).trans (hb3.block k hk)
  have L04 : Lies w4 w.heap.size 24 #[.int .i64 t.kind, .string t.name, .int .i64 t.n, .int .i64 t.place, .slice A t.parts.length (capF t.parts.length c)] := (hk14 _ (by omega)).trans L0
  have L14 : Lies w4 (w.heap.size + 1) 34 #[.slice none 0 0] := (hk14 _ (by omega)).trans L1
  have LT4 : Lies w4 w2.heap.size 57 #[twinF B] := (hb4.block _ (by omega)).trans LT
  have hbm2 := hM.lt
  have hT0 : TellS w2.heap.size B bm (w.heap.size + 1) w4.heap.size 0 [] (fun q => (q = w.heap.size + 1 ∨ (Value.slice none 0 0).ownBlock = some q) ∨ q = bm ∨ q = B ∨ q = w2.heap.size) w4 := by
    refine ⟨⟨_, rfl, none, 0, rfl, L14, ⟨by omega, Nat.le_refl _⟩, World.ownsRow_nil _ _ _ _⟩, LT4.cell 0, (World.cell?_of_block (hk24 B (by omega))).trans cB, ⟨0, countN [], hM.heap (hk24 bm hbm2), Nat.le_refl _, Nat.le_refl _, fun s => ⟨by simp [countN], by simp [countN], by simp [countN, ofN]⟩⟩, by simp, ⟨by omega, by omega, by omega, by omega⟩, hne, by omega, by omega, by omega, by omega, by omega⟩
  have hF0 := LF.cell 0
  simp at hF0
  rw [hs3] at hF0
  have hFZ : ¬ (fun q => (q = w.heap.size + 1 ∨ (Value.slice none 0 0).ownBlock = some q) ∨ q = bm ∨ q = B ∨ q = w2.heap.size) (w2.heap.size + 1) := by
    rintro ((h | h) | h | h | h)
    · omega
    · cases h
    all_goals omega
  have hZ04 : ¬ (fun q => (q = w.heap.size + 1 ∨ (Value.slice none 0 0).ownBlock = some q) ∨ q = bm ∨ q = B ∨ q = w2.heap.size) w.heap.size := by
    rintro ((h | h) | h | h | h)
    · omega
    · cases h
    all_goals omega
  have hZ0w : ∀ k, (fun q => (q = w.heap.size + 1 ∨ (Value.slice none 0 0).ownBlock = some q) ∨ q = bm ∨ q = B ∨ q = w2.heap.size) k → w.heap.size ≤ k := by
    rintro k ((h | h) | h | h | h)
    · omega
    · cases h
    all_goals omega
  obtain ⟨Z0, hZ0⟩ : ∃ Z0, Z0 = (fun q => (q = w.heap.size + 1 ∨ (Value.slice none 0 0).ownBlock = some q) ∨ q = bm ∨ q = B ∨ q = w2.heap.size) := ⟨_, rfl⟩
  rw [← hZ0] at hT0 hFZ hZ04 hZ0w
  have hq1 : ∀ (pf : ByteArray → Prop) , True := fun _ => trivial
  have hT1' := tell_any _ _ _ _ _ _ _ _ ⟨#[84, 114, 117, 101]⟩ 0 w4 hT0 (by omega) (by omega) (by decide)
  have HT := Lib.hid hT0
  have HL04 := Lib.hid L04
  have HFZ := Lib.hid hFZ
  have HZ04 := Lib.hid hZ04
  have HZ0w := Lib.hid hZ0w
  have HB4 := Lib.hid hbw4
  have HF0 := Lib.hid hF0
  clear hT0 L04 hFZ hZ04 hZ0w hbw4 hZ0 LF LT LT4 L14 L0 L1 hk14 hk24 hb1 hb2 hb3 hb4 cB hM hq1
  gi_upto_region 5 with (gi_at_call 40; refine (callsIn_wide.2 hT1').mono ?_; rintro e w5 ⟨rfl, Z1, hG1, hT1⟩)
  have hF1 := hG1.cell HF0.out HFZ.out (fun h => h)
  have hFZ1 := hG1.not (World.block_lt_of_cell? _ _ HF0.out) HFZ.out
  have hT2' := tell_any _ _ _ _ _ _ _ _ ⟨#[70, 97, 108, 115, 101]⟩ 0 w5 hT1 (by omega) (by omega) (by decide)
  clear hF0
  gi_upto_region 6 with (gi_at_call 40; refine (callsIn_wide.2 hT2').mono ?_; rintro e w6 ⟨rfl, Z2, hG2, hT2⟩)
  have hF2 := hG2.cell hF1 hFZ1 (fun h => h)
  have hFZ2 := hG2.not (World.block_lt_of_cell? _ _ hF1) hFZ1
  have hG := hG1.trans hG2
  have L06 := hG.lies HL04.out HZ04.out (fun h => h)
  have hZ06 := hG.not HL04.out.lt HZ04.out
  have hheads : onceN (onceN [] [(⟨#[84, 114, 117, 101]⟩, 0)]) [(⟨#[70, 97, 108, 115, 101]⟩, 0)] = heads5 := by kernel_rfl
  rw [hheads] at hT2
  obtain ⟨c0, c1, c2, c3, c4⟩ := five_cellsS L06
  have HT2 := Lib.hid hT2
  have HF2 := Lib.hid hF2
  have HFZ2 := Lib.hid hFZ2
  have HG := Lib.hid hG
  have HI := Lib.hid hI
  clear hT2 hF2 hFZ2 hG hI L06 hF1 hFZ1 hG1 hG2 hT1 hT1' hT2' hheads HL04 HZ04 HFZ HF0 HT
  gi_wp2_with (gi_at_call 27; refine (callsIn_wide.2 (spotsF_any _ _ _ _ _ _ _ _)).mono ?_; rintro e w' ⟨rfl, rfl⟩)
  have L2 := Lies.new w6 24 #[.int .i64 t.kind, .string t.name, .int .i64 t.n, .int .i64 t.place, .slice A t.parts.length (capF t.parts.length c)]
  have hG7 : Gz No Z0 w4 Z2 (w6.alloc (.cells #[.int .i64 t.kind, .string t.name, .int .i64 t.n, .int .i64 t.place, .slice A t.parts.length (capF t.parts.length c)] 24)) := HG.out.alloc _
  have hT7 : TellS w2.heap.size B bm (w.heap.size + 1) w4.heap.size 2 heads5 Z2 (w6.alloc (.cells #[.int .i64 t.kind, .string t.name, .int .i64 t.n, .int .i64 t.place, .slice A t.parts.length (capF t.parts.length c)] 24)) :=
    HT2.out.frame (by simp) fun k hk => Below.heap_alloc _ _ _ (HT2.out.below k hk)
  have hF7 : (w6.alloc (.cells #[.int .i64 t.kind, .string t.name, .int .i64 t.n, .int .i64 t.place, .slice A t.parts.length (capF t.parts.length c)] 24)).cell? ⟨w2.heap.size + 1, 0, none⟩ = some (.func (.func 40) #[] #[.pointer (some ⟨w2.heap.size, 0, none⟩), .pointer (some ⟨w.heap.size + 1, 0, none⟩)]) :=
    (World.cell?_of_block (Below.heap_alloc _ _ _ (World.block_lt_of_cell? _ _ HF2.out))).trans HF2.out
  have hs7 : (w6.alloc (.cells #[.int .i64 t.kind, .string t.name, .int .i64 t.n, .int .i64 t.place, .slice A t.parts.length (capF t.parts.length c)] 24)).heap.size = w6.heap.size + 1 := by simp
  generalize w6.alloc (.cells #[.int .i64 t.kind, .string t.name, .int .i64 t.n, .int .i64 t.place, .slice A t.parts.length (capF t.parts.length c)] 24) = w7 at L2 hG7 hT7 hF7 hs7 ⊢
  rename_i K2 hK2
  have hs64 := HG.out.size
  have hbw7 : Below w.heap.size w w7 := gz_belowS HB4.out HZ0w.out hG7
  clear c0 c1 c2 c3 c4
  refine spots_range w6.heap.size t A c (X := (· < w.heap.size)) (Z0 := fun q => Z2 q ∨ q = w2.heap.size + 1) (I := ConsI (w2.heap.size + 1) w2.heap.size B bm (w.heap.size + 1) w4.heap.size) (Ix := fun _ _ _ => False) rfl rfl (ConsI.stands _ _ _ _ _ _) nowhereS hd hs ht
    L2 (TIn.below _ (tin_ltS HI.out) hbw7 (Nat.le_refl _)) (fun q hq => ⟨by have := hbw7.size; omega, ?zz⟩) ⟨by omega, Z2, rfl, hT7, HFZ2.out, hF7⟩
    (fun x Ax cx S => { tmps := #[.agg #[.int .i64 t.kind, .string t.name, .int .i64 t.n, .int .i64 t.place, .slice A t.parts.length (capF t.parts.length c)], .pointer (some ⟨w.heap.size, 0, none⟩), .slice none 0 0, .pointer (some ⟨w.heap.size + 1, 0, none⟩), .pointer (some ⟨w2.heap.size, 0, none⟩), .pointer (some ⟨w2.heap.size + 1, 0, none⟩), .pointer (some ⟨S, 0, none⟩), undef, undef, .func (.func 49) #[] #[.pointer (some ⟨B, 0, none⟩)], .func (.func 40) #[] #[.pointer (some ⟨w2.heap.size, 0, none⟩), .pointer (some ⟨w.heap.size + 1, 0, none⟩)], .func (.func 40) #[] #[.pointer (some ⟨w2.heap.size, 0, none⟩), .pointer (some ⟨w.heap.size + 1, 0, none⟩)], .tuple #[], .func (.func 40) #[] #[.pointer (some ⟨w2.heap.size, 0, none⟩), .pointer (some ⟨w.heap.size + 1, 0, none⟩)], .tuple #[], .agg #[.int .i64 t.kind, .string t.name, .int .i64 t.n, .int .i64 t.place, .slice A t.parts.length (capF t.parts.length c)], .func (.func 42) #[] #[.pointer (some ⟨w6.heap.size, 0, none⟩)], sv x Ax cx, undef, undef, undef, undef, undef, undef, undef, undef, undef, undef, undef, undef, undef], defers := [] }) ?assign ?body ?done ?stop
  case zz =>
    rintro (h | h)
    · rcases HG.out.ext _ h with h | h
      · have := HZ0w.out _ h; omega
      · omega
    · omega
  case assign =>
    intro l x Ax cx U K hK
    have e : sv x Ax cx = .agg #[.int .i64 x.t.kind, .string x.t.name, .int .i64 x.t.n, .int .i64 x.t.place, .slice Ax x.t.parts.length (capF x.t.parts.length cx), .bool x.free, .bool x.twin] := rfl
    rw [e] at hK ⊢
    gi_wp2
    exact hK
  case body =>
    rintro l pre x Ax cx Z S V hsz hZS LS hTx ⟨hFb, Zt, rfl, hTt, hFt, hFc⟩ hpre
    obtain ⟨hmem, hplen⟩ := mem_of_pre hpre
    have hlen := lenS t [] false
    have hok := own_ok (okS t [] false ht x hmem)
    obtain ⟨hnm, hpl⟩ := name_le hTx
    obtain ⟨d0, d1, d2, d3, d4, d5, d6⟩ := seven_cells LS
    have harm := arity_any x.t.kind x.t.n x.t.place x.t.name Ax x.t.parts.length (capF x.t.parts.length cx) x.free x.twin V
    by_cases hk : x.t.kind = 6 ∨ x.t.kind = 8
    · obtain ⟨O, hO⟩ : ∃ O, O = (if x.t.kind = 6 then (x.t.parts.length : Int) else if x.t.kind = 8 then x.t.n else 0) := ⟨_, rfl⟩
      have hO2 : ownN x.t.kind x.t.n x.t.parts = O ∧ 0 ≤ O := by
        rw [hO, ownN]
        by_cases h6 : x.t.kind = 6
        · rw [if_pos h6, if_pos h6]; exact ⟨rfl, by omega⟩
        · have h8 : x.t.kind = 8 := by omega
          rw [if_neg h6, if_neg h6, if_pos h8, if_pos h8]; exact ⟨rfl, hok h8⟩
      rw [← hO, decide_eq_true hk] at harm
      have hms := metsS_snoc pre x
      rw [hO2.1, if_pos hO2.2] at hms
      have HMS := Lib.hid hms
      have HTT := Lib.hid hTt
      have HFT := Lib.hid hFt
      have HFC := Lib.hid hFc
      have HO := Lib.hid hO2.2
      have HLS := Lib.hid LS
      have HTX := Lib.hid hplen
      have HX : Hid (∀ v1, Below V.heap.size V v1 → TellS w2.heap.size B bm (w.heap.size + 1) w4.heap.size (2 + pre.length) (onceN heads5 (metsS pre)) Zt v1 ∧ v1.cell? ⟨w2.heap.size + 1, 0, none⟩ = some (.func (.func 40) #[] #[.pointer (some ⟨w2.heap.size, 0, none⟩), .pointer (some ⟨w.heap.size + 1, 0, none⟩)]) ∧ v1.cell? ⟨S, 1, none⟩ = some (.string x.t.name)) := Lib.hid fun v1 hb =>
        ⟨hTt.frame hb.size fun k hk => hb.block k (hTt.below k hk), (World.cell?_of_block (hb.block _ (World.block_lt_of_cell? _ _ hFc))).trans hFc, (World.cell?_of_block (hb.block _ (World.block_lt_of_cell? _ _ d1))).trans d1⟩
      have hM9 : 2 + pre.length ≤ 1000000000 := by omega
      have hO9 := hO2.2
      clear hms hTt hFt hFc hO hO2 hok hpre hmem hTx LS hplen
      gi_wp2_with (first
        | (gi_at_call 41; refine (callsIn_wide.2 harm).mono ?_; rintro e v1 ⟨rfl, hbv⟩; obtain ⟨hT1, hF1, e1⟩ := HX.out _ hbv)
        | (gi_at_call 40; refine (callsIn_wide.2 (tell_any _ _ _ _ _ _ _ _ x.t.name O v1 hT1 hM9 hO9 hnm)).mono ?_; rintro e v2 ⟨rfl, Zt', hG', hT'⟩))
      refine ⟨fun q => Zt' q ∨ q = w2.heap.size + 1, ?_, hFb, Zt', rfl, ?_, ?_, ?_⟩
      · exact (((Gz.refl No Zt V).below hbv (Nat.le_refl _)).trans hG').plusS
      · rw [HMS.out, onceN_app, List.length_append]
        exact hT'
      · exact hG'.not (World.block_lt_of_cell? _ _ hF1) HFT.out
      · exact hG'.cell hF1 HFT.out (fun h => h)
    · have e1 : (if x.t.kind = 6 then (x.t.parts.length : Int) else if x.t.kind = 8 then x.t.n else 0) = 0 := by rw [if_neg (fun h => hk (.inl h)), if_neg (fun h => hk (.inr h))]
      rw [e1, decide_eq_false hk] at harm
      have hms := metsS_snoc pre x
      have hO2 : ¬ 0 ≤ ownN x.t.kind x.t.n x.t.parts := by
        rw [ownN, if_neg (fun h => hk (.inl h)), if_neg (fun h => hk (.inr h))]; omega
      rw [if_neg hO2, List.append_nil] at hms
      have HMS := Lib.hid hms
      have HFT := Lib.hid hFt
      have HX : Hid (∀ v1, Below V.heap.size V v1 → TellS w2.heap.size B bm (w.heap.size + 1) w4.heap.size (2 + pre.length) (onceN heads5 (metsS pre)) Zt v1 ∧ v1.cell? ⟨w2.heap.size + 1, 0, none⟩ = some (.func (.func 40) #[] #[.pointer (some ⟨w2.heap.size, 0, none⟩), .pointer (some ⟨w.heap.size + 1, 0, none⟩)])) := Lib.hid fun v1 hb =>
        ⟨hTt.frame hb.size fun k hk => hb.block k (hTt.below k hk), (World.cell?_of_block (hb.block _ (World.block_lt_of_cell? _ _ hFc))).trans hFc⟩
      clear hms hTt hFt hFc hO2 hok hpre hmem hTx LS hplen e1
      gi_wp2_with (gi_at_call 41; refine (callsIn_wide.2 harm).mono ?_; rintro e v1 ⟨rfl, hbv⟩)
      obtain ⟨hT1, hF1⟩ := HX.out _ hbv
      refine ⟨fun q => Zt q ∨ q = w2.heap.size + 1, ((Gz.refl No Zt V).below hbv (Nat.le_refl _)).plusS, hFb, Zt, rfl, ?_, HFT.out, hF1⟩
      rw [HMS.out, List.length_append]
      exact hT1.mono (by simp)
  case done =>
    rintro D Z V hD hDV hZD hG ⟨hFb, Zt, rfl, hTt, hFt, hFc⟩ hdef
    obtain ⟨⟨Zb, rfl, hbx⟩, ct, cb, hm, nn, ⟨lt1, lt2, lt3, lt4⟩, ne1, ne2, ne3, ne4, ne5, ne6⟩ := hTt
    obtain ⟨A', c', rfl, LV, hS, hrow⟩ := hbx
    rw [mets_spots] at LV hrow
    have hcons : onceN heads5 (metT t) = consT t := rfl
    rw [hcons] at LV hrow
    have x0 := LV.cell 0
    simp at x0
    have hbV : Below w.heap.size w V := gz_belowS hbw7 (fun q hq => by
      rcases hq with h | h
      · rcases HG.out.ext _ h with h | h
        · exact HZ0w.out _ h
        · omega
      · omega) hG
    have hrD : ∀ q, (Value.slice A' (consT t).length c').ownBlock = some q → q ≠ D := fun q hq e => hZD (.inl (.inl (.inr (by rw [mets_spots, hcons, ← e]; exact hq))))
    simp only [Exit.inBlock, Exit.then]
    refine hK2 _ _ ?_
    gi_wp2
    refine ends1 hdef (results_tmp rfl _ _ _) ⟨_, _, rfl, ?_, below_putS hbV (by omega)⟩
    exact own_base (ownsRow_heap2 hrow fun q hq => World.putObj_heap_other (hrD q hq)) (by have := hbw7.size; omega)
  case stop =>
    rintro D Z V q _ _ _ _ _ h _
    exact h.elim
end Lx
end Go.Proofs.YtobdoahdjbmflaaGreatDoor
namespace Go.Proofs.YtobdoahdjbmflaaGreatDoor
open Go Go.RowKit
attribute [local go_sem] Oper.semAt_some
namespace Lx
set_option maxRecDepth 100000
attribute [local go_sem] run_store_fnS
theorem twinV (ah : List ByteArray) (s : ByteArray) : decide (1 < countN ah s + 1) = inN ah s := by
  have h1 := countN_in ah s
  have h2 := countN_nn ah s
  cases h : inN ah s with
  | true => rw [h] at h1; simp at h1; exact decide_eq_true (by omega)
  | false => rw [h] at h1; simp at h1; exact decide_eq_false (by omega)
set_option maxHeartbeats 2000000 in
theorem twin5_any (T B bm N : Nat) (C : ByteArray → Int) (k n a : Int) (s : ByteArray) (A : Option Addr) (m c : Nat) (w : World) (hT : w.cell? ⟨T, 0, none⟩ = some (twinF B)) (hB : w.cell? ⟨B, 0, none⟩ = some (.map (some bm))) (hne : B ≠ bm) (hM : MapS w bm N C) (hN : N ≤ 1000000000) (hs : s.size ≤ 140737488351232) (hC : 0 ≤ C s ∧ C s ≤ 1000000000000) :
    Calls Tryz.prog 69 #[.agg #[.int .i64 k, .string s, .int .i64 n, .int .i64 a, .slice A m c], .pointer (some ⟨T, 0, none⟩)] w fun e w' => e = .returned (.bool (decide (1 < C s + 1))) ∧ MapS w' bm (N + 1) (fun v => if v = s then C s + 1 else C v) ∧ w.grownBy w' (some bm) := by
  obtain ⟨W, hW⟩ : ∃ W, W = w.alloc (.cells #[.int .i64 k, .string s, .int .i64 n, .int .i64 a, .slice A m c] 24) := ⟨_, rfl⟩
  have hb : Below w.heap.size w W := by rw [hW]; exact (Below.refl _ w).alloc (Nat.le_refl _) _
  have L : Lies W w.heap.size 24 #[.int .i64 k, .string s, .int .i64 n, .int .i64 a, .slice A m c] := by rw [hW]; exact Lies.new _ _ _
  obtain ⟨c0, c1, c2, c3, c4⟩ := five_cellsS L
  have hTW : W.cell? ⟨T, 0, none⟩ = some (.func (.func 49) #[] #[.pointer (some ⟨B, 0, none⟩)]) := (World.cell?_of_block (hb.block T (World.block_lt_of_cell? w _ hT))).trans hT
  have hBW := (World.cell?_of_block (hb.block B (World.block_lt_of_cell? w _ hB))).trans hB
  have hq := twins1_any B bm N C s W hBW hne (hM.below hb hM.lt) (by omega) hs hC
  have HF : Hid (∀ w', W.grownBy w' (some bm) → w.grownBy w' (some bm)) := Lib.hid fun w' hg => ⟨hg.os.trans hb.os, hg.tape.trans hb.tape, hg.output.trans hb.output, Nat.le_trans hb.size hg.size, fun i hi hn => (hg.block i (by have := hb.size; omega) hn).trans (hb.block i hi)⟩
  clear hT hB hM hC hBW L
  go_enter Tryz.func69, Tryz.ntmps69
  go_upto_region 1 with fail
  rw [← hW]
  clear hW
  go_wp2_with (go_at_call 49; refine hq.mono ?_; rintro e w1 ⟨rfl, hM1, hg1⟩)
  go_ret
  exact ⟨rfl, hM1, HF.out _ hg1⟩
set_option maxHeartbeats 2000000 in
theorem idx5_any (T B bm : Nat) (l : List Tr) (A : Option Addr) (m c : Nat) (w : World) (hm : m = l.length) (hm2 : m ≤ 1000) (hI : LIn w (fun q => q ≠ bm) l A 0) (hT : w.cell? ⟨T, 0, none⟩ = some (twinF B)) (hB : w.cell? ⟨B, 0, none⟩ = some (.map (some bm))) (hne : B ≠ bm) (hne2 : T ≠ bm) (hM : MapS w bm 0 (countN [])) :
    Calls Tryz.prog 94 #[.slice A m c, .func (.func 69) #[] #[.pointer (some ⟨T, 0, none⟩)]] w fun e w' => (∃ r : Int, e = .returned (.int .i64 r) ∧ decide (0 ≤ r) = twiceN (l.map Tr.name)) ∧ w.grownBy w' (some bm) := by
  have HI : Hid (∀ w', w.grownBy w' (some bm) → LIn w' (fun q => q ≠ bm) l A 0) := Lib.hid fun w' hg => LIn.keep l hI fun g j hX hlt => ⟨World.cell?_of_block (hg.block g hlt (fun e => hX (by injection e with e))), hX⟩
  have HTB : Hid (∀ w', w.grownBy w' (some bm) → w'.cell? ⟨T, 0, none⟩ = some (twinF B) ∧ w'.cell? ⟨B, 0, none⟩ = some (.map (some bm))) := Lib.hid fun w' hg =>
    ⟨(World.cell?_of_block (hg.block T (World.block_lt_of_cell? w _ hT) (fun e => hne2 (by injection e with e)))).trans hT, (World.cell?_of_block (hg.block B (World.block_lt_of_cell? w _ hB) (fun e => hne (by injection e with e)))).trans hB⟩
  have HM := Lib.hid hM
  have HL := Lib.hid hm
  clear hI hT hB hM hm
  go_enter Tryz.func94, Tryz.ntmps94
  go_wp2_with fail
  go_loopw [8] (fun x wr => ∃ i : Nat, i ≤ m ∧ x = .int .i64 i ∧ Hid (twiceN ((l.map Tr.name).take i) = false ∧ MapS wr bm i (countN ((l.map Tr.name).take i)) ∧ w.grownBy wr (some bm))) (fun x _ => m - (intOf x).toNat)
  case atStart => exact ⟨0, by omega, rfl, Lib.hid ⟨rfl, HM.out.eq fun v => rfl, World.grownBy.refl _ _⟩⟩
  case round =>
    obtain ⟨i, hi, rfl, HQ⟩ := hrel
    by_cases hlt : i < m
    · have hia : i < l.length := by have := HL.out; omega
      obtain ⟨g', o, A', c', ⟨hA, _⟩, d0, d1, d2, d3, d4, hIn⟩ := LIn.at_ l (HI.out _ HQ.out.2.2) i hia
      subst hA
      obtain ⟨hnm, hpl⟩ := name_le hIn
      obtain ⟨tr, hu⟩ : ∃ tr, tr = l[i]'hia := ⟨_, rfl⟩
      have HS : Hid ((l.map Tr.name).take (i + 1) = (l.map Tr.name).take i ++ [tr.name]) := Lib.hid (by rw [List.take_succ_eq_append_getElem (by simpa using hia), hu]; simp)
      rw [← hu] at d0 d1 d2 d3 d4 hnm
      clear hu hIn hpl
      obtain ⟨tk, ts, tn, ta, tl⟩ := tr
      simp only [Tr.kind, Tr.n, Tr.name, Tr.parts, Tr.place] at d0 d1 d2 d3 d4 hnm HS
      rw [Nat.zero_add] at d0 d1 d2 d3 d4
      obtain ⟨nm, hnmE⟩ : ∃ nm, nm = (l.map Tr.name).take i := ⟨_, rfl⟩
      rw [← hnmE] at HQ HS
      have hcn := countN_nn nm ts
      have hnl : nm.length ≤ i := by rw [hnmE, List.length_take]; omega
      obtain ⟨hT1, hB1⟩ := HTB.out _ HQ.out.2.2
      have HU := Lib.hid (twin5_any T B bm i (countN nm) tk tn ta ts A' tl.length (capF tl.length c') wr hT1 hB1 hne HQ.out.2.1 (by omega) hnm ⟨hcn.1, by omega⟩)
      rw [twinV] at HU
      clear hT1 hB1 hnmE hcn hnl
      cases hq : inN nm ts with
      | true =>
        rw [hq] at HU
        go_wp2_with fail
        refine HU.out.mono ?_
        rintro e w2 ⟨rfl, hM2, hg2⟩
        have HM2 := Lib.hid hM2
        have HG2 := Lib.hid hg2
        clear hM2 hg2
        go_wp2_with fail
        go_ret
        refine ⟨⟨i, rfl, ?_⟩, HQ.out.2.2.trans HG2.out⟩
        have h1 : twiceN ((l.map Tr.name).take (i + 1)) = true := by rw [HS.out, twiceN_snoc, hq, Bool.or_true]
        have h2 := twiceN_app _ ((l.map Tr.name).drop (i + 1)) h1
        rw [List.take_append_drop] at h2
        rw [h2]
        simp
      | false =>
        rw [hq] at HU
        go_wp2_with fail
        refine HU.out.mono ?_
        rintro e w2 ⟨rfl, hM2, hg2⟩
        have HM2 := Lib.hid hM2
        have HG2 := Lib.hid hg2
        clear hM2 hg2
        go_wp2_with fail
        go_roundw
        case rel =>
          refine ⟨i + 1, by omega, by go_num, Lib.hid ⟨?_, ?_, HQ.out.2.2.trans HG2.out⟩⟩
          · rw [HS.out, twiceN_snoc, HQ.out.1, hq]; rfl
          · rw [HS.out]
            exact HM2.out.eq fun v => by rw [countN_snoc]
        case measure => simp [intOf]; omega
    · have HT9 := Lib.hid (List.take_of_length_le (l := l.map Tr.name) (i := i) (by have := HL.out; simp; omega))
      go_wp2_with fail
      go_ret
      refine ⟨⟨-1, rfl, ?_⟩, HQ.out.2.2⟩
      have h := HQ.out.1
      rw [HT9.out] at h
      rw [h]; rfl
theorem has5_any (T B bm : Nat) (l : List Tr) (A : Option Addr) (m c : Nat) (w : World) (hm : m = l.length) (hm2 : m ≤ 1000) (hI : LIn w (fun q => q ≠ bm) l A 0) (hT : w.cell? ⟨T, 0, none⟩ = some (twinF B)) (hB : w.cell? ⟨B, 0, none⟩ = some (.map (some bm))) (hne : B ≠ bm) (hne2 : T ≠ bm) (hM : MapS w bm 0 (countN [])) :
    Calls Tryz.prog 68 #[.slice A m c, .func (.func 69) #[] #[.pointer (some ⟨T, 0, none⟩)]] w fun e w' => e = .returned (.bool (twiceN (l.map Tr.name))) ∧ w.grownBy w' (some bm) := by
  have HX := Lib.hid (idx5_any T B bm l A m c w hm hm2 hI hT hB hne hne2 hM)
  clear hI hM hT hB hm
  go_enter Tryz.func68, Tryz.ntmps68
  go_wp2_with fail
  refine HX.out.mono ?_
  rintro e w2 ⟨⟨r, rfl, hr⟩, hb2⟩
  have HR := Lib.hid hr
  clear hr
  go_wp2_with fail
  go_ret
  exact ⟨by rw [← HR.out]; rfl, hb2⟩
end Lx
end Go.Proofs.YtobdoahdjbmflaaGreatDoor
namespace Go.Proofs.YtobdoahdjbmflaaGreatDoor
open Go Go.RowKit
attribute [local go_sem] Oper.semAt_some
namespace Lx
set_option maxRecDepth 100000
attribute [local go_sem] run_store_fnS
theorem varsN_names : ∀ (n : Nat) (l : List Tr), varsN n l = (l.take n).map Tr.name
  | n, [] => by rw [varsN]; simp
  | 0, t :: r => by rw [varsN, if_pos (by omega)]; rfl
  | n + 1, t :: r => by
    rw [varsN, if_neg (by omega), show ((n + 1 : Nat) : Int) - 1 = (n : Nat) from by omega, varsN_names n r]; rfl
theorem LIn.takeS (l : List Tr) {w : World} {X : Nat → Prop} {A : Option Addr} (i : Nat) (h : LIn w X l A 0) : LIn w X (l.take i) A 0 :=
  LIn.mk _ 0 fun j hj => by
    have hj2 : j < l.length := by rw [List.length_take] at hj; omega
    have := LIn.at_ l h j hj2
    rw [List.getElem_take]
    exact this
theorem lin_some {w : World} {X : Nat → Prop} {l : List Tr} {A : Option Addr} (h : LIn w X l A 0) (hl : 0 < l.length) : ∃ g o, A = some ⟨g, o, none⟩ := by
  cases l with
  | nil => simp at hl
  | cons t r =>
    rw [LIn] at h
    obtain ⟨⟨g, o, _, _, ⟨e, _⟩, _⟩, _⟩ := h
    exact ⟨g, o, e⟩
set_option maxHeartbeats 4000000 in
theorem hasTwins_any (k n a : Int) (s : ByteArray) (l : List Tr) (A : Option Addr) (c : Nat) (fr tw : Bool) (w : World) (hl : l.length ≤ 9) (h8 : k = 8 → 0 ≤ n ∧ n + 1 = (l.length : Int)) (hc : l.length ≤ c) (hI : LIn w Any l A 0) :
    Calls Tryz.prog 44 #[spotV k n a s A l.length c fr tw] w fun e w' => e = .returned (.bool (decide (k = 8) && twiceN (varsN n l))) ∧ Below w.heap.size w w' := by
  obtain ⟨W, hW⟩ : ∃ W, W = w.alloc (.cells (spotC k n a s A l.length c fr tw) 54) := ⟨_, rfl⟩
  have hb : Below w.heap.size w W := by rw [hW]; exact (Below.refl _ w).alloc (Nat.le_refl _) _
  have hsW : W.heap.size = w.heap.size + 1 := by rw [hW]; simp
  have L : Lies W w.heap.size 54 (spotC k n a s A l.length c fr tw) := by rw [hW]; exact Lies.new _ _ _
  have hIW : LIn W (· < w.heap.size) l A 0 := LIn.keep l hI fun g j _ hlt => ⟨World.cell?_of_block (hb.block g hlt), hlt⟩
  -- what is asked for
  obtain ⟨lst, A', c', hvars, hlst, hlen⟩ : ∃ (lst : List Tr) (A' : Option Addr) (c' : Nat), (∀ V, Calls Tryz.prog 65 #[spotV k n a s A l.length c fr tw] V fun e w' => e = .returned (.slice A' lst.length c') ∧ Below V.heap.size V w') ∧
      (LIn W (· < w.heap.size) lst A' 0) ∧ (lst.length ≤ 9 ∧ twiceN (lst.map Tr.name) = (decide (k = 8) && twiceN (varsN n l))) := by
    by_cases h : k = 8
    · obtain ⟨h0, h1⟩ := h8 h
      obtain ⟨j, rfl⟩ := Int.eq_ofNat_of_zero_le h0
      obtain ⟨g, o, rfl⟩ := lin_some hIW (by omega)
      have hlj : (l.take j).length = j := by rw [List.length_take]; omega
      refine ⟨l.take j, some ⟨g, o, none⟩, c, fun V => ?_, LIn.takeS l j hIW, by omega, ?_⟩
      · rw [hlj, h]
        exact vars_alt j a s g o l.length c fr tw V (by omega)
      · rw [varsN_names j l, decide_eq_true h, Bool.true_and]
    · refine ⟨[], none, 0, fun V => vars_no k n a s A l.length c fr tw V h, by rw [LIn]; trivial, by simp, ?_⟩
      rw [decide_eq_false h]; rfl
  rw [← hlen.2]
  have HI := Lib.hid hlst
  have HB := Lib.hid hb
  have hl9 := hlen.1
  have hTw : Calls Tryz.prog 30 #[] W fun e w' => ∃ (B bm : Nat), e = .returned (.func (.func 49) #[] #[.pointer (some ⟨B, 0, none⟩)]) ∧ w'.cell? ⟨B, 0, none⟩ = some (.map (some bm)) ∧ MapS w' bm 0 (countN []) ∧ W.heap.size ≤ bm ∧ W.heap.size ≤ B ∧ B ≠ bm ∧ B < w'.heap.size ∧ Below W.heap.size W w' := twins_any W
  have HV := Lib.hid hvars
  clear hlst hb hIW hI h8 hvars hlen
  go_enter Tryz.func44, Tryz.ntmps44
  go_upto_region 1 with fail
  rw [← hW]
  clear hW
  go_upto_region 2 with (go_at_call 30; refine hTw.mono ?_; rintro e w2 ⟨B, bm, rfl, cB, hM, hbm, hB, hne, hBlt, hb2⟩; have L4 := Lies.new w2 57 #[.nilFunc]; have x0 : (w2.alloc (.cells #[.nilFunc] 57)).cell? ⟨w2.heap.size, 0, none⟩ = some .nilFunc := L4.cell 0; have x1 : (w2.alloc (.cells #[.nilFunc] 57)).frozen? ⟨w2.heap.size, 0, none⟩ = false := L4.frozen 0)
  clear x0 x1 L4 hTw
  obtain ⟨w3, hw3⟩ : ∃ w3, w3 = w2.alloc (.cells #[.func (.func 49) #[] #[.pointer (some ⟨B, 0, none⟩)]] 57) := ⟨_, rfl⟩
  have hb3 : Below w2.heap.size w2 w3 := by rw [hw3]; exact (Below.refl _ _).alloc (Nat.le_refl _) _
  have LT : Lies w3 w2.heap.size 57 #[twinF B] := by rw [hw3]; exact Lies.new _ _ _
  rw [← hw3]
  clear hw3
  have hs2 := hb2.size
  have hbW3 : Below W.heap.size W w3 := hb2.trans (hb3.mono hs2)
  have L3 := L.below hbW3 L.lt
  obtain ⟨c0, c1, c2, c3, c4, c5, c6⟩ := seven_cells L3
  have cB3 := (World.cell?_of_block (hb3.block B hBlt)).trans cB
  have hM3 := hM.below hb3 hM.lt
  have hbm2 := hM.lt
  have HX : Hid (∀ w4, Below w3.heap.size w3 w4 → LIn w4 (fun q => q ≠ bm) lst A' 0 ∧ w4.cell? ⟨w2.heap.size, 0, none⟩ = some (twinF B) ∧ w4.cell? ⟨B, 0, none⟩ = some (.map (some bm)) ∧ MapS w4 bm 0 (countN []) ∧ Below w.heap.size w w4) := Lib.hid fun w4 hb4 => by
    have hbW4 := hbW3.trans (hb4.mono hbW3.size)
    refine ⟨LIn.keep lst HI.out fun g j hX hlt => ⟨World.cell?_of_block (hbW4.block g hlt), by omega⟩, (World.cell?_of_block (hb4.block _ LT.lt)).trans (LT.cell 0), (World.cell?_of_block (hb4.block B (by have := hb3.size; omega))).trans cB3, hM3.below hb4 hM3.lt, HB.out.trans (hbW4.mono HB.out.size)⟩
  have hneT : w2.heap.size ≠ bm := by omega
  have HBM : Hid (w.heap.size ≤ bm) := Lib.hid (by omega)
  clear cB hM hbW3 L L3 hb2 hb3 LT cB3 hM3 hsW hbm hB hs2 hbm2
  go_wp2_with (first
    | (go_at_call 65; refine (HV.out _).mono ?_; rintro e w4 ⟨rfl, hb4⟩; obtain ⟨hI4, hT4, hB4, hM4, hbw4⟩ := HX.out _ hb4)
    | (go_at_call 68; refine (has5_any w2.heap.size B bm lst A' lst.length c' w4 rfl (by omega) hI4 hT4 hB4 hne hneT hM4).mono ?_; rintro e w5 ⟨rfl, hg5⟩))
  go_ret
  exact ⟨rfl, hbw4.grown hg5 hbw4.size (fun q hq => by injection hq with hq; subst hq; exact HBM.out)⟩
set_option maxHeartbeats 8000000 in
/-- What is wrong with a place itself. -/
theorem fault_any (AA : List (ByteArray × Int)) (bm N : Nat) (C : ByteArray → Int) (x : Spot) (A : Option Addr) (c : Nat) (w : World) (hok : okT x.t) (hI : TIn w Any x.t A) (hM : MapS w bm N C) (_hN : N ≤ 1000000000) (hC : 0 ≤ ownN x.t.kind x.t.n x.t.parts → C x.t.name = ofN AA x.t.name) :
    Calls Tryz.prog 28 #[sv x A c, .map (some bm)] w fun e w' => e = .returned (.int .i64 (badS AA x)) ∧ Below w.heap.size w w' := by
  obtain ⟨t, fr, tw⟩ := x
  obtain ⟨k, s, n, a, l⟩ := t
  show Calls Tryz.prog 28 #[.agg #[.int .i64 k, .string s, .int .i64 n, .int .i64 a, .slice A l.length (capF l.length c), .bool fr, .bool tw], .map (some bm)] w _
  rw [okT] at hok
  obtain ⟨⟨ok8, ok1, ok2, ok3, ok9, okn, hl9⟩, _⟩ := hok
  rw [TIn] at hI
  obtain ⟨hss, hls, hIL⟩ := hI
  simp only [Tr.kind, Tr.n, Tr.parts, Tr.name] at hC
  obtain ⟨cc, hcc⟩ : ∃ cc, cc = capF l.length c := ⟨_, rfl⟩
  have hlc : l.length ≤ cc := by rw [hcc]; exact le_capF _ _
  rw [← hcc]
  obtain ⟨W, hW⟩ : ∃ W, W = w.alloc (.cells (spotC k n a s A l.length cc fr tw) 54) := ⟨_, rfl⟩
  have hb : Below w.heap.size w W := by rw [hW]; exact (Below.refl _ w).alloc (Nat.le_refl _) _
  have hsW : W.heap.size = w.heap.size + 1 := by rw [hW]; simp
  have L : Lies W w.heap.size 54 (spotC k n a s A l.length cc fr tw) := by rw [hW]; exact Lies.new _ _ _
  obtain ⟨c0, c1, c2, c3, c4, c5, c6⟩ := seven_cells L
  have harm := arity_any k n a s A l.length cc fr tw W
  have hIW : LIn W Any l A 0 := LIn.keep l hIL fun g j _ hlt => ⟨World.cell?_of_block (hb.block g hlt), trivial⟩
  have hMW := hM.below hb hM.lt
  have hX : ∀ w1, Below W.heap.size W w1 → Below w.heap.size w w1 ∧ MapS w1 bm N C ∧ LIn w1 Any l A 0 ∧ Lies w1 w.heap.size 54 (spotC k n a s A l.length cc fr tw) := fun w1 hb1 =>
    ⟨hb.trans (hb1.mono hb.size), hMW.below hb1 hMW.lt, LIn.keep l hIW fun g j _ hlt => ⟨World.cell?_of_block (hb1.block g hlt), trivial⟩, L.below hb1 L.lt⟩
  have HX := Lib.hid hX
  have hbad : badS AA ⟨.node k s n a l, fr, tw⟩ = if fr = true then 50 else if 0 ≤ ownN k n l ∧ ofN AA s ≠ ownN k n l then 51 else if tw = true ∨ (k = 8 ∧ twiceN (varsN n l) = true) then 52 else 0 := rfl
  rw [hbad]
  have hkey : keyOf Tryz.prog 9 (.string s) = some (.string s.data.toList) := Go.WideMaps.keyOf_string_mk Tryz.underlying9 (by unfold maxLen; omega)
  clear hX hIW hMW hb hsW L hM hIL hbad hcc ok1 ok2 ok3 ok9 okn
  obtain ⟨O, hO⟩ : ∃ O, O = (if k = 6 then (l.length : Int) else if k = 8 then n else 0) := ⟨_, rfl⟩
  obtain ⟨is, his⟩ : ∃ is, is = decide (k = 6 ∨ k = 8) := ⟨_, rfl⟩
  rw [← hO, ← his] at harm
  have hown2 : ownN k n l = if is = true then O else -1 := by
    rw [ownN, hO, his]
    by_cases h6 : k = 6
    · simp [h6]
    · by_cases h8 : k = 8
      · simp [h8]
      · simp [h6, h8]
  have hO0 : is = true → 0 ≤ O := fun h => by
    rw [his] at h
    rw [hO]
    by_cases h6 : k = 6
    · rw [if_pos h6]; omega
    · have h8 : k = 8 := by simp [h6] at h; exact h
      rw [if_neg h6, if_pos h8]; exact (ok8 h8).1
  rw [hown2] at hC ⊢
  have HK8 := Lib.hid ok8
  clear ok8 hO his hown2 hls
  by_cases hfr : fr = true
  · subst hfr
    rw [if_pos rfl]
    clear hC _hN
    go_enter Tryz.func28, Tryz.ntmps28
    go_upto_region 1 with fail
    rw [← hW]
    clear hW
    go_wp2_with (go_at_call 41; refine harm.mono ?_; rintro e w1 ⟨rfl, hb1⟩; obtain ⟨hbw, hM1, hI1, L1⟩ := HX.out _ hb1; obtain ⟨d0, d1, d2, d3, d4, d5, d6⟩ := seven_cells L1)
    go_ret
    exact ⟨rfl, hbw⟩
  obtain rfl : fr = false := by simpa using hfr
  rw [if_neg (by simp)]
  clear hfr
  obtain ⟨tn, htn⟩ : ∃ tn, tn = (decide (k = 8) && twiceN (varsN n l)) := ⟨_, rfl⟩
  have htn2 : (tw = true ∨ (k = 8 ∧ twiceN (varsN n l) = true)) ↔ (tw || tn) = true := by
    rw [htn]; simp
  have htwin : ∀ W', LIn W' Any l A 0 → Calls Tryz.prog 44 #[.agg #[.int .i64 k, .string s, .int .i64 n, .int .i64 a, .slice A l.length cc, .bool false, .bool false]] W' fun e w' => e = .returned (.bool tn) ∧ Below W'.heap.size W' w' := fun W' hI' => by
    rw [htn]; exact hasTwins_any k n a s l A cc false false W' hl9 HK8.out hlc hI'
  have HT2 := Lib.hid htn2
  have HTW := Lib.hid htwin
  clear htn htn2 htwin HK8
  obtain ⟨R, hR⟩ : ∃ R, R = (if 0 ≤ (if is = true then O else -1) ∧ ofN AA s ≠ (if is = true then O else -1) then (51 : Int) else if tw = true ∨ (k = 8 ∧ twiceN (varsN n l) = true) then 52 else 0) := ⟨_, rfl⟩
  rw [← hR]
  have HR := Lib.hid hR
  clear hR
  cases is with
  | false =>
    clear hC
    cases tw with
    | true =>
      obtain rfl : R = 52 := by rw [HR.out, if_neg (fun h => by have := h.1; simp at this), if_pos (HT2.out.2 (by simp))]
      clear HR
      go_enter Tryz.func28, Tryz.ntmps28
      go_upto_region 1 with fail
      rw [← hW]
      clear hW
      go_wp2_with (go_at_call 41; refine harm.mono ?_; rintro e w1 ⟨rfl, hb1⟩; obtain ⟨hbw, hM1, hI1, L1⟩ := HX.out _ hb1; obtain ⟨d0, d1, d2, d3, d4, d5, d6⟩ := seven_cells L1)
      go_ret
      exact ⟨rfl, hbw⟩
    | false =>
      cases tn with
      | true =>
        obtain rfl : R = 52 := by rw [HR.out, if_neg (fun h => by have := h.1; simp at this), if_pos (HT2.out.2 (by simp))]
        clear HR
        go_enter Tryz.func28, Tryz.ntmps28
        go_upto_region 1 with fail
        rw [← hW]
        clear hW
        go_wp2_with (first | (go_at_call 41; refine harm.mono ?_; rintro e w1 ⟨rfl, hb1⟩; obtain ⟨hbw, hM1, hI1, L1⟩ := HX.out _ hb1; obtain ⟨d0, d1, d2, d3, d4, d5, d6⟩ := seven_cells L1) | (go_at_call 44; refine (HTW.out w1 hI1).mono ?_; rintro e w5 ⟨rfl, hb5⟩))
        go_ret
        exact ⟨rfl, hbw.trans (hb5.mono hbw.size)⟩
      | false =>
        obtain rfl : R = 0 := by rw [HR.out, if_neg (fun h => by have := h.1; simp at this), if_neg (fun h => by have := HT2.out.1 h; simp at this)]
        clear HR
        go_enter Tryz.func28, Tryz.ntmps28
        go_upto_region 1 with fail
        rw [← hW]
        clear hW
        go_wp2_with (first | (go_at_call 41; refine harm.mono ?_; rintro e w1 ⟨rfl, hb1⟩; obtain ⟨hbw, hM1, hI1, L1⟩ := HX.out _ hb1; obtain ⟨d0, d1, d2, d3, d4, d5, d6⟩ := seven_cells L1) | (go_at_call 44; refine (HTW.out w1 hI1).mono ?_; rintro e w5 ⟨rfl, hb5⟩))
        go_ret
        exact ⟨rfl, hbw.trans (hb5.mono hbw.size)⟩
  | true =>
    have hO9 := hO0 rfl
    have hC9 := hC (by simpa using hO9)
    obtain ⟨Z9, hZ⟩ : ∃ Z9, Z9 = C s := ⟨_, rfl⟩
    rw [← hZ] at hC9
    have HZ : Hid (C s = Z9) := Lib.hid hZ.symm
    have HC9 := Lib.hid hC9
    clear hZ hC hO0 hC9
    by_cases hne : O = Z9
    · have hne2 : (O != Z9) = false := by simpa using hne
      have HNE := Lib.hid hne
      clear hne
      cases tw with
      | true =>
        obtain rfl : R = 52 := by rw [HR.out, if_neg (fun h => h.2 (by rw [if_pos rfl]; exact HC9.out.symm.trans HNE.out.symm)), if_pos (HT2.out.2 (by simp))]
        clear HR
        go_enter Tryz.func28, Tryz.ntmps28
        go_upto_region 1 with fail
        rw [← hW]
        clear hW
        go_wp2_with (first | (go_at_call 41; refine harm.mono ?_; rintro e w1 ⟨rfl, hb1⟩; obtain ⟨hbw, hM1, hI1, L1⟩ := HX.out _ hb1; obtain ⟨d0, d1, d2, d3, d4, d5, d6⟩ := seven_cells L1; obtain ⟨q, D, hown, hq, hD⟩ := hM1; obtain ⟨cc9, hlk, hat, _⟩ := hown.lookup_int (t := 49) (Maps.string_keyed Tryz.underlying9) Tryz.underlying49 Tryz.underlying3 (Tryz.zeroValue3 _) hkey; have e9 : cc9 = Z9 := (by rw [hD s, HZ.out] at hat; injection hat with hat; injection hat with _ hat; exact hat.symm); rw [e9] at hlk; clear hD hat e9 hown hq))
        go_ret
        exact ⟨rfl, hbw⟩
      | false =>
        cases tn with
        | true =>
          obtain rfl : R = 52 := by rw [HR.out, if_neg (fun h => h.2 (by rw [if_pos rfl]; exact HC9.out.symm.trans HNE.out.symm)), if_pos (HT2.out.2 (by simp))]
          clear HR
          go_enter Tryz.func28, Tryz.ntmps28
          go_upto_region 1 with fail
          rw [← hW]
          clear hW
          go_wp2_with (first | (go_at_call 41; refine harm.mono ?_; rintro e w1 ⟨rfl, hb1⟩; obtain ⟨hbw, hM1, hI1, L1⟩ := HX.out _ hb1; obtain ⟨d0, d1, d2, d3, d4, d5, d6⟩ := seven_cells L1; obtain ⟨q, D, hown, hq, hD⟩ := hM1; obtain ⟨cc9, hlk, hat, _⟩ := hown.lookup_int (t := 49) (Maps.string_keyed Tryz.underlying9) Tryz.underlying49 Tryz.underlying3 (Tryz.zeroValue3 _) hkey; have e9 : cc9 = Z9 := (by rw [hD s, HZ.out] at hat; injection hat with hat; injection hat with _ hat; exact hat.symm); rw [e9] at hlk; clear hD hat e9 hown hq) | (go_at_call 44; refine (HTW.out w1 hI1).mono ?_; rintro e w5 ⟨rfl, hb5⟩))
          go_ret
          exact ⟨rfl, hbw.trans (hb5.mono hbw.size)⟩
        | false =>
          obtain rfl : R = 0 := by rw [HR.out, if_neg (fun h => h.2 (by rw [if_pos rfl]; exact HC9.out.symm.trans HNE.out.symm)), if_neg (fun h => by have := HT2.out.1 h; simp at this)]
          clear HR
          go_enter Tryz.func28, Tryz.ntmps28
          go_upto_region 1 with fail
          rw [← hW]
          clear hW
          go_wp2_with (first | (go_at_call 41; refine harm.mono ?_; rintro e w1 ⟨rfl, hb1⟩; obtain ⟨hbw, hM1, hI1, L1⟩ := HX.out _ hb1; obtain ⟨d0, d1, d2, d3, d4, d5, d6⟩ := seven_cells L1; obtain ⟨q, D, hown, hq, hD⟩ := hM1; obtain ⟨cc9, hlk, hat, _⟩ := hown.lookup_int (t := 49) (Maps.string_keyed Tryz.underlying9) Tryz.underlying49 Tryz.underlying3 (Tryz.zeroValue3 _) hkey; have e9 : cc9 = Z9 := (by rw [hD s, HZ.out] at hat; injection hat with hat; injection hat with _ hat; exact hat.symm); rw [e9] at hlk; clear hD hat e9 hown hq) | (go_at_call 44; refine (HTW.out w1 hI1).mono ?_; rintro e w5 ⟨rfl, hb5⟩))
          go_ret
          exact ⟨rfl, hbw.trans (hb5.mono hbw.size)⟩
    · have hne2 : (O != Z9) = true := by simpa using hne
      obtain rfl : R = 51 := by rw [HR.out, if_pos ⟨by simpa using hO9, fun h => hne (by rw [if_pos rfl] at h; rw [HC9.out]; exact h.symm)⟩]
      clear hne HR
      go_enter Tryz.func28, Tryz.ntmps28
      go_upto_region 1 with fail
      rw [← hW]
      clear hW
      go_wp2_with (first | (go_at_call 41; refine harm.mono ?_; rintro e w1 ⟨rfl, hb1⟩; obtain ⟨hbw, hM1, hI1, L1⟩ := HX.out _ hb1; obtain ⟨d0, d1, d2, d3, d4, d5, d6⟩ := seven_cells L1; obtain ⟨q, D, hown, hq, hD⟩ := hM1; obtain ⟨cc9, hlk, hat, _⟩ := hown.lookup_int (t := 49) (Maps.string_keyed Tryz.underlying9) Tryz.underlying49 Tryz.underlying3 (Tryz.zeroValue3 _) hkey; have e9 : cc9 = Z9 := (by rw [hD s, HZ.out] at hat; injection hat with hat; injection hat with _ hat; exact hat.symm); rw [e9] at hlk; clear hD hat e9 hown hq))
      go_ret
      exact ⟨rfl, hbw⟩
end Lx
end Go.Proofs.YtobdoahdjbmflaaGreatDoor
namespace Go.Proofs.YtobdoahdjbmflaaGreatDoor
namespace Lx
set_option maxRecDepth 100000
theorem run_app (P : Int → Bool) (r : List UInt8) (hr : run P r = 0) : ∀ t : List UInt8, (∀ c ∈ t, P (c.toNat : Int) = true) → run P (t ++ r) = t.length
  | [], _ => by simpa using hr
  | c :: t, h => by
    have h1 := run_app P r hr t (fun d hd => h d (by simp [hd]))
    have h2 := h c (by simp)
    simp [run, h1, h2]
theorem run_take_all (P : Int → Bool) : ∀ l : List UInt8, ∀ c ∈ l.take (run P l), P (c.toNat : Int) = true
  | [], c, h => by simp at h
  | a :: l, c, h => by
    by_cases ha : P (a.toNat : Int) = true
    · simp only [run, ha, if_true, List.take_succ_cons, List.mem_cons] at h
      rcases h with rfl | h
      · exact ha
      · exact run_take_all P l c h
    · simp [run, ha] at h

/-- What may stand behind a token: nothing, or a blank. -/
def Gap (r : List UInt8) : Prop := r = [] ∨ ∃ q, r = 32 :: q
theorem gap_ld {r : List UInt8} (h : Gap r) : run ldR r = 0 := by
  rcases h with rfl | ⟨q, rfl⟩ <;> rfl

theorem sign_gap {r : List UInt8} (h : Gap r) : ∀ g ∈ signsS, run ldR (g ++ r) = 0 ∧ signOf (g ++ r) = some g := by
  rcases h with rfl | ⟨q, rfl⟩
  · intro g hg
    simp only [signsS, List.mem_cons, List.not_mem_nil, or_false] at hg
    rcases hg with rfl | rfl | rfl | rfl | rfl | rfl | rfl | rfl | rfl | rfl | rfl | rfl | rfl | rfl | rfl <;> exact ⟨rfl, rfl⟩
  · intro g hg
    simp only [signsS, List.mem_cons, List.not_mem_nil, or_false] at hg
    rcases hg with rfl | rfl | rfl | rfl | rfl | rfl | rfl | rfl | rfl | rfl | rfl | rfl | rfl | rfl | rfl <;> exact ⟨rfl, rfl⟩

theorem tok_gap {l t r : List UInt8} {kd n : Int} (h : tokK l = .ok (kd, n, t)) (hr : Gap r) : tokK (t ++ r) = .ok (kd, n, t) := by
  unfold tokK at h
  split at h
  · rename_i h0
    split at h
    · rename_i k' n' h1
      simp only [Except.ok.injEq, Prod.mk.injEq] at h
      obtain ⟨rfl, rfl, rfl⟩ := h
      have hall := run_take_all ldR l
      have hrun := run_app ldR r (gap_ld hr) (l.take (run ldR l)) hall
      have hle := run_le ldR l
      have hpos : 0 < (l.take (run ldR l)).length := by rw [List.length_take]; omega
      generalize l.take (run ldR l) = t at *
      unfold tokK
      rw [hrun, if_pos hpos, List.take_left, h1]
    · cases h
  · split at h
    · rename_i g h1
      simp only [Except.ok.injEq, Prod.mk.injEq] at h
      obtain ⟨rfl, rfl, rfl⟩ := h
      obtain ⟨h2, h3⟩ := sign_gap hr g (List.mem_of_find?_eq_some h1)
      unfold tokK
      rw [h2, if_neg (by omega), h3]
    · cases h

/-- A token that was read somewhere. -/
def Good (t : Tok) : Prop := ∃ l, tokK l = .ok (t.kind, t.n, t.text)
theorem scan_all_good : ∀ (f : Nat) (l : List UInt8) (k : Nat) (ts : List Tok), scan f l k = .ok ts → ∀ t ∈ ts, Good t := by
  intro f
  induction f with
  | zero => intro l k ts h; simp [scan] at h; subst h; simp
  | succ f ih =>
    intro l k ts h
    unfold scan at h
    split at h
    · cases h; simp
    · split at h
      · cases h
      · rename_i kd n t ht
        split at h
        · cases h
        · rename_i r hr
          cases h
          intro u hu
          rcases List.mem_cons.1 hu with rfl | hu
          · exact ⟨l, ht⟩
          · exact ih _ _ _ hr u hu

/-- The tokens' texts, with one blank between any two. -/
def textS : List Tok → List UInt8
  | [] => []
  | [t] => t.text
  | t :: u :: r => t.text ++ 32 :: textS (u :: r)
theorem good_pos {t : Tok} (h : Good t) : 0 < t.text.length := by
  obtain ⟨l, h⟩ := h
  exact (tok_text h).1
theorem blk_head {c : UInt8} {l t : List UInt8} {kd n : Int} (h : tokK (c :: l) = .ok (kd, n, t)) : blkR (c.toNat : Int) = false := by
  cases hb : blkR (c.toNat : Int) with
  | false => rfl
  | true =>
    exfalso
    have hc : c = 32 ∨ c = 10 ∨ c = 9 := by
      simp only [blkR, Bool.or_eq_true, beq_iff_eq] at hb
      rcases hb with (hb | hb) | hb
      · exact .inl (UInt8.toNat_inj.1 (by simpa using Int.ofNat_inj.1 hb))
      · exact .inr (.inl (UInt8.toNat_inj.1 (by simpa using Int.ofNat_inj.1 hb)))
      · exact .inr (.inr (UInt8.toNat_inj.1 (by simpa using Int.ofNat_inj.1 hb)))
    rcases hc with rfl | rfl | rfl <;> cases h
theorem text_blk {ts : List Tok} (h : ∀ t ∈ ts, Good t) : run blkR (textS ts) = 0 := by
  have key : ∀ (t : Tok), Good t → ∀ r, run blkR (t.text ++ r) = 0 := by
    intro t ht r
    have hp := good_pos ht
    obtain ⟨l, hl⟩ := ht
    have h2 := tok_gap (r := []) hl (.inl rfl)
    rw [List.append_nil] at h2
    cases htx : t.text with
    | nil => rw [htx] at hp; simp at hp
    | cons c q =>
      rw [htx] at h2
      have := blk_head h2
      simp [run, this]
  match ts, h with
  | [], _ => rfl
  | [t], h =>
    have := key t (h t (by simp)) []
    simpa [textS] using this
  | t :: u :: r, h => exact key t (h t (by simp)) _

theorem scan_text : ∀ (ts : List Tok), (∀ t ∈ ts, Good t) → ∀ f k, ts.length ≤ f → ∃ us, scan f (textS ts) k = .ok us ∧ us.map (fun t => (t.kind, t.text, t.n)) = ts.map (fun t => (t.kind, t.text, t.n))
  | [], _, f, k, _ => ⟨[], scan_end f k, rfl⟩
  | [t], h, f, k, hf => by
    obtain ⟨f, rfl⟩ : ∃ g, f = g + 1 := ⟨f - 1, by simp at hf; omega⟩
    have hp := good_pos (h t (by simp))
    obtain ⟨l, hl⟩ := h t (by simp)
    have h2 := tok_gap (r := []) hl (.inl rfl)
    rw [List.append_nil] at h2
    have hne : t.text ≠ [] := by intro e; rw [e] at hp; simp at hp
    refine ⟨[⟨t.kind, t.text, t.n, k⟩], ?_, rfl⟩
    simp [textS, scan, hne, h2, run, scan_end]
  | t :: u :: r, h, f, k, hf => by
    obtain ⟨f, rfl⟩ : ∃ g, f = g + 1 := ⟨f - 1, by simp at hf; omega⟩
    have hp := good_pos (h t (by simp))
    obtain ⟨l, hl⟩ := h t (by simp)
    have h2 := tok_gap (r := 32 :: textS (u :: r)) hl (.inr ⟨_, rfl⟩)
    have hb : run blkR (textS (u :: r)) = 0 := text_blk (fun x hx => h x (by simp [List.mem_cons.1 hx]))
    have hb1 : run blkR (32 :: textS (u :: r)) = 1 := by
      rw [run, hb]; rfl
    obtain ⟨us, hs, hm⟩ := scan_text (u :: r) (fun x hx => h x (by simp [List.mem_cons.1 hx])) f (k + t.text.length + 1) (by simp at hf ⊢; omega)
    refine ⟨⟨t.kind, t.text, t.n, k⟩ :: us, ?_, by simp [hm]⟩
    have hne : t.text ++ 32 :: textS (u :: r) ≠ [] := by simp
    rw [textS, scan, if_neg hne, h2]
    simp only [List.drop_left, hb1, List.drop_succ_cons, List.drop_zero, hs]

theorem textS_len : ∀ (ts : List Tok), (∀ t ∈ ts, Good t) → ts.length ≤ (textS ts).length
  | [], _ => by simp
  | [t], h => by have := good_pos (h t (by simp)); simp [textS]; omega
  | t :: u :: r, h => by
    have h1 := good_pos (h t (by simp))
    have h2 := textS_len (u :: r) (fun x hx => h x (by simp [List.mem_cons.1 hx]))
    simp [textS] at h2 ⊢
    omega
theorem textS_bound : ∀ (f : Nat) (l : List UInt8) (k : Nat) (ts : List Tok), scan f l k = .ok ts → (textS ts).length + 1 ≤ 2 * l.length + 1 := by
  intro f
  induction f with
  | zero => intro l k ts h; simp [scan] at h; subst h; simp [textS]
  | succ f ih =>
    intro l k ts h
    unfold scan at h
    split at h
    · cases h; simp [textS]
    · split at h
      · cases h
      · rename_i kd n t ht
        split at h
        · cases h
        · rename_i r hr
          cases h
          obtain ⟨h1, h2, _⟩ := tok_text ht
          have h3 := ih _ _ _ hr
          have h4 := run_le blkR (l.drop t.length)
          simp only [List.length_drop] at h3 h4
          cases r with
          | nil => simp [textS] at h3 ⊢; omega
          | cons u r => simp [textS] at h3 ⊢; omega

/-- The stage's theorem, plainly. -/
theorem allK_again {l : List UInt8} {ts : List Tok} (h : allK l = .ok ts) : ∃ us, allK (textS ts) = .ok us ∧ us.map (fun t => (t.kind, t.text, t.n)) = ts.map (fun t => (t.kind, t.text, t.n)) := by
  have hg := scan_all_good _ _ _ _ h
  obtain ⟨us, hs, hm⟩ := scan_text ts hg ((textS ts).length + 1) 0 (by have := textS_len ts hg; omega)
  refine ⟨us, ?_, hm⟩
  unfold allK
  rw [text_blk hg]
  exact hs
theorem textS_eq : ∀ (us ts : List Tok), us.map (fun t => (t.kind, t.text, t.n)) = ts.map (fun t => (t.kind, t.text, t.n)) → textS us = textS ts
  | [], [], _ => rfl
  | [], _ :: _, h => by simp at h
  | _ :: _, [], h => by simp at h
  | [a], [b], h => by simp at h; simp [textS, h.2.1]
  | [a], b :: c :: r, h => by simp at h
  | a :: b :: r, [c], h => by simp at h
  | a :: b :: r, c :: d :: q, h => by
    simp only [List.map_cons, List.cons.injEq, Prod.mk.injEq] at h
    have := textS_eq (b :: r) (d :: q) (by simp only [List.map_cons, List.cons.injEq, Prod.mk.injEq]; exact h.2)
    simp [textS, this, h.1.2.1]
theorem numK_err {l : List UInt8} {x : Int} (h : numK l = .error x) : x = 10 ∨ x = 11 := by
  unfold numK at h
  split at h
  · cases h; exact .inl rfl
  · split at h
    · cases h; exact .inr rfl
    · cases h
theorem runK_err {l : List UInt8} {x : Int} (h : runK l = .error x) : x = 10 ∨ x = 11 := by
  unfold runK at h
  split at h
  · exact numK_err h
  · split at h
    · cases h; exact .inr rfl
    · split at h
      · cases h
      · split at h <;> cases h
theorem tokK_err {l : List UInt8} {x : Int} (h : tokK l = .error x) : x = 10 ∨ x = 11 := by
  unfold tokK at h
  split at h
  · split at h
    · cases h
    · rename_i h1
      cases h
      exact runK_err h1
  · split at h
    · cases h
    · cases h; exact .inl rfl
theorem scan_err : ∀ (f : Nat) (l : List UInt8) (k : Nat) (p x : Int), scan f l k = .error (p, x) → x = 10 ∨ x = 11 := by
  intro f
  induction f with
  | zero => intro l k p x h; simp [scan] at h
  | succ f ih =>
    intro l k p x h
    unfold scan at h
    split at h
    · cases h
    · split at h
      · rename_i h1
        cases h
        exact tokK_err h1
      · split at h
        · rename_i h1
          cases h
          exact ih _ _ _ _ h1
        · cases h
theorem err_code {l : List UInt8} {p x : Int} (h : allK l = .error (p, x)) : x = 10 ∨ x = 11 := scan_err _ _ _ _ _ h
end Lx
end Go.Proofs.YtobdoahdjbmflaaGreatDoor
