/-
  Texts that lie one behind the other: ScO ShelfS ScH.
-/
import Derived.Test.YtobdoahdjbmflaaGreatDoorC1
import Derived.Test.YtobdoahdjbmflaaGreatDoorC7
import Derived.Test.YtobdoahdjbmflaaGreatDoorC8
import Derived.Test.YtobdoahdjbmflaaGreatDoorProg
import Derived.Shelf.Sort.Plain
import Derived.Shelf.Slices.In.SortNone
import Derived.Sort.Grow
import Derived.Sort.EncStr
namespace Go.Proofs.YtobdoahdjbmflaaGreatDoor
open Go Go.RowKit
attribute [local go_sem] Oper.semAt_some
namespace Lx
set_option maxRecDepth 100000
attribute [local go_sem] wideS_fn wideS_depth run_store_fnS
mutual
theorem nameS : ∀ (t : Tr) (b : List ByteArray) (tw : Bool) (w : World) (X : Nat → Prop) (A : Option Addr), TIn w X t A → ∀ x ∈ spotsT b tw t, x.t.name.size ≤ 140737488351232
  | .node k s n a l, b, tw, w, X, A, h, x, hx => by
    rw [spotsT] at hx
    rw [TIn] at h
    rcases List.mem_cons.1 hx with rfl | hx
    · exact h.1
    · exact nameSL l k n s l b 0 [] w X A 0 h.2.2 x hx
theorem nameSL : ∀ (l : List Tr) (k n : Int) (s : ByteArray) (all : List Tr) (b : List ByteArray) (i : Nat) (ah : List ByteArray) (w : World) (X : Nat → Prop) (A : Option Addr) (j : Nat), LIn w X l A j → ∀ x ∈ spotsL k n s all b i ah l, x.t.name.size ≤ 140737488351232
  | [], k, n, s, all, b, i, ah, w, X, A, j, _, x, hx => by rw [spotsL] at hx; simp at hx
  | t :: r, k, n, s, all, b, i, ah, w, X, A, j, h, x, hx => by
    rw [LIn] at h
    obtain ⟨⟨g, o, A', c, _, _, _, _, _, _, ht⟩, hr⟩ := h
    rw [spotsL] at hx
    split at hx
    · exact nameSL r k n s all b _ _ w X A (j + 1) hr x hx
    · rcases List.mem_append.1 hx with hx | hx
      · exact nameS t _ _ w X A' ht x hx
      · exact nameSL r k n s all b _ _ w X A (j + 1) hr x hx
end
theorem once_mem : ∀ (r a : List (ByteArray × Int)) (p : ByteArray × Int), p ∈ onceN a r → p ∈ a ∨ p ∈ r
  | [], a, p, h => .inl h
  | (x, n) :: r, a, p, h => by
    rw [onceN] at h
    split at h
    · rcases once_mem r _ p h with h | h
      · rcases List.mem_append.1 h with h | h
        · exact .inl h
        · exact .inr (List.mem_cons.2 (.inl (by simpa using h)))
      · exact .inr (List.mem_cons_of_mem _ h)
    · rcases once_mem r a p h with h | h
      · exact .inl h
      · exact .inr (List.mem_cons_of_mem _ h)
theorem cons_le {t : Tr} {w : World} {X : Nat → Prop} {A : Option Addr} (h : TIn w X t A) (ht : okT t) : ∀ p ∈ consT t, p.1.size ≤ 140737488351232 ∧ 0 ≤ p.2 ∧ p.2 ≤ 9 := fun p hp => by
  rcases once_mem _ _ p hp with hp | hp
  · unfold heads5 at hp
    simp at hp
    rcases hp with rfl | rfl
    · exact ⟨by decide, by omega, by omega⟩
    · exact ⟨by decide, by omega, by omega⟩
  · rw [← mets_spots t [] false] at hp
    unfold metsS at hp
    rw [List.mem_filterMap] at hp
    obtain ⟨x, hx, hx2⟩ := hp
    split at hx2
    · rename_i h0
      injection hx2 with hx2
      rw [← hx2]
      refine ⟨nameS t [] false w X A h x hx, h0, ?_⟩
      have hok := okS t [] false ht x hx
      show ownN x.t.kind x.t.n x.t.parts ≤ 9
      generalize x.t = y at hok
      obtain ⟨k, s, n, a, l⟩ := y
      rw [okT] at hok
      show ownN k n l ≤ 9
      rw [ownN]
      obtain ⟨⟨ok8, _, _, _, _, _, hl9⟩, _⟩ := hok
      by_cases h6 : k = 6
      · rw [if_pos h6]; omega
      · rw [if_neg h6]
        by_cases h8 : k = 8
        · rw [if_pos h8]; have := ok8 h8; omega
        · rw [if_neg h8]; omega
    · cases hx2
theorem cons_len (t : Tr) : (consT t).length ≤ 2 + sizeT t := by
  have h1 := (onceN_len heads5 (metT t)).2
  have h2 := metT_len t
  have h3 : heads5.length = 2 := rfl
  unfold consT
  omega
abbrev ZC (R1 R2 MB bm : Nat) : Nat → Prop := fun q => q = R1 ∨ q = R2 ∨ q = MB ∨ q = bm
/-- What the range in `Check` stands on: what is told, the map and its box. -/
def ChkI (AA : List (ByteArray × Int)) (R1 R2 MB bm : Nat) (C : ByteArray → Int) : List Spot → (Nat → Prop) → World → Prop := fun pre Z U =>
  Z = ZC R1 R2 MB bm ∧ Lies U R1 3 #[.int .i64 0] ∧ Lies U R2 27 #[.int .i64 0] ∧ U.cell? ⟨MB, 0, none⟩ = some (.map (some bm)) ∧ MapS U bm 1000000000 C ∧ (firstS AA pre).2 = 0
def ChkX (AA : List (ByteArray × Int)) (R1 R2 MB bm : Nat) : List Spot → (Nat → Prop) → World → Prop := fun pre Z U =>
  Z = ZC R1 R2 MB bm ∧ Lies U R1 3 #[.int .i64 (firstS AA pre).1] ∧ Lies U R2 27 #[.int .i64 (firstS AA pre).2] ∧ (firstS AA pre).2 ≠ 0 ∧ MB < U.heap.size ∧ bm < U.heap.size
theorem ChkI.stands (AA : List (ByteArray × Int)) (R1 R2 MB bm : Nat) (C : ByteArray → Int) : StandsS (ChkI AA R1 R2 MB bm C) := by
  refine ⟨?_, ?_⟩
  · rintro pre Z A B ⟨rfl, L1, L2, hc, hm, hf⟩ hsz hk
    exact ⟨rfl, (hk R1 (.inl rfl)).trans L1, (hk R2 (.inr (.inl rfl))).trans L2, (World.cell?_of_block (hk MB (.inr (.inr (.inl rfl))))).trans hc, hm.heap (hk bm (.inr (.inr (.inr rfl)))), hf⟩
  · rintro pre Z A ⟨rfl, L1, L2, hc, hm, hf⟩ k (rfl | rfl | rfl | rfl)
    · exact L1.lt
    · exact L2.lt
    · exact World.block_lt_of_cell? A _ hc
    · exact hm.lt
theorem ChkX.stands (AA : List (ByteArray × Int)) (R1 R2 MB bm : Nat) : StandsS (ChkX AA R1 R2 MB bm) := by
  refine ⟨?_, ?_⟩
  · rintro pre Z A B ⟨rfl, L1, L2, hf, h1, h2⟩ hsz hk
    exact ⟨rfl, (hk R1 (.inl rfl)).trans L1, (hk R2 (.inr (.inl rfl))).trans L2, hf, by omega, by omega⟩
  · rintro pre Z A ⟨rfl, L1, L2, hf, h1, h2⟩ k (rfl | rfl | rfl | rfl)
    · exact L1.lt
    · exact L2.lt
    · exact h1
    · exact h2
theorem firstS_zero (AA : List (ByteArray × Int)) : ∀ (l : List Spot) (a : Int), firstS AA l = (a, 0) → a = 0
  | [], a, h => by rw [firstS] at h; injection h with h; exact h.symm
  | x :: r, a, h => by
    rw [firstS] at h
    split at h
    · rename_i hb
      injection h with h1 h2
      exact absurd h2 hb
    · exact firstS_zero AA r a h
theorem load_intS {W : World} {g : Nat} {x : Int} (hc : W.cell? ⟨g, 0, none⟩ = some (.int .i64 x)) : (loadVar 3 ⟨g, 0, none⟩).run Tryz.prog W = .ok (.int .i64 x) W := by
  have := Tryz.underlying3
  go_simp
theorem load_errS {W : World} {g : Nat} {x : Int} (hc : W.cell? ⟨g, 0, none⟩ = some (.int .i64 x)) : (loadVar 27 ⟨g, 0, none⟩).run Tryz.prog W = .ok (.int .i64 x) W := by
  have := Tryz.underlying27
  go_simp
theorem results_chkS {fn : Func} {p q : Tmp} (h : fn.results = #[.cell p 3, .cell q 27]) (tmps : Array Value) {W : World} {g1 g2 : Nat} {x y : Int} (hp : tmps.getD p undef = .pointer (some ⟨g1, 0, none⟩)) (hq : tmps.getD q undef = .pointer (some ⟨g2, 0, none⟩))
    (h1 : W.cell? ⟨g1, 0, none⟩ = some (.int .i64 x)) (h2 : W.cell? ⟨g2, 0, none⟩ = some (.int .i64 y)) : (results fn tmps).run Tryz.prog W = .ok (.tuple #[.int .i64 x, .int .i64 y]) W := by
  have hp' : tmps[p]?.getD undef = .pointer (some ⟨g1, 0, none⟩) := by simpa using hp
  have hq' : tmps[q]?.getD undef = .pointer (some ⟨g2, 0, none⟩) := by simpa using hq
  simp [results, h, hp', hq', asAddr, load_intS h1, load_errS h2]
theorem Gz.setCellZS {E Z Z' : Nat → Prop} {A B : World} (h : Gz E Z A Z' B) (p : Addr) (v : Value) (hp : Z p.block) : Gz E Z A Z' (B.setCell p v) :=
  ⟨h.os, h.tape, h.output, by rw [show (B.setCell p v).heap.size = B.heap.size from by simp [World.setCell]]; exact h.size,
    fun k hk hz he => (Below.heap_setCell B p v k (fun e => hz (e ▸ hp))).trans (h.same k hk hz he), h.ext⟩
set_option maxHeartbeats 8000000 in
theorem check_anyS (t : Tr) (A : Option Addr) (c : Nat) (w : World) (hd : depthT t ≤ 4000) (hs : sizeT t ≤ 1000000) (hm : mayV t = true) (hI : TIn w Any t A) (hg : Signs w) (ht : okT t) :
    Calls Tryz.prog 9 #[tv t A c] w fun e w' => e = .returned (.tuple #[.int .i64 (firstS (consT t) (spotsT [] false t)).1, .int .i64 (firstS (consT t) (spotsT [] false t)).2]) ∧ Below w.heap.size w w' := by
  have hmm := @run_makeMap Tryz.prog
  have hle := cons_le hI ht
  have hln := cons_len t
  show Calls Tryz.prog 9 #[.agg #[.int .i64 t.kind, .string t.name, .int .i64 t.n, .int .i64 t.place, .slice A t.parts.length (capF t.parts.length c)]] w _
  refine (callsIn_wide (n := 0)).1 ?_
  refine callsIn_of_wp_marks Tryz.func9 rfl trivial ?_ rfl
  simp only [Tryz.ntmps9, List.size_toArray, List.length_cons, List.length_nil, Nat.reduceAdd, Nat.reduceSub, Array.replicate_succ, Array.replicate_zero, List.push_toArray, List.append_toArray, List.nil_append, List.cons_append]
  gi_upto_region 1 with fail
  obtain ⟨w0, hw0⟩ : ∃ w0, w0 = ((w.alloc (.cells #[.int .i64 t.kind, .string t.name, .int .i64 t.n, .int .i64 t.place, .slice A t.parts.length (capF t.parts.length c)] 24)).alloc (.cells #[.int .i64 0] 3)).alloc (.cells #[.int .i64 0] 27) := ⟨_, rfl⟩
  have hs0 : w0.heap.size = w.heap.size + 3 := by rw [hw0]; simp
  have hb0 : Below w.heap.size w w0 := by rw [hw0]; exact (((Below.refl _ w).alloc (Nat.le_refl _) _).alloc (by simp) _).alloc (by simp; omega) _
  have L0 : Lies w0 w.heap.size 24 #[.int .i64 t.kind, .string t.name, .int .i64 t.n, .int .i64 t.place, .slice A t.parts.length (capF t.parts.length c)] := by rw [hw0]; exact ((Lies.new _ _ _).old _).old _
  have L1 : Lies w0 (w.heap.size + 1) 3 #[.int .i64 0] := by rw [hw0]; exact (lies_nextS _ _ _ _ (by simp)).old _
  have L2 : Lies w0 (w.heap.size + 1 + 1) 27 #[.int .i64 0] := by rw [hw0]; exact lies_nextS _ _ _ _ (by simp)
  rw [← hw0]
  clear hw0
  obtain ⟨c0, c1, c2, c3, c4⟩ := five_cellsS L0
  have hMay : Calls Tryz.prog 25 #[.agg #[.int .i64 t.kind, .string t.name, .int .i64 t.n, .int .i64 t.place, .slice A t.parts.length (capF t.parts.length c)]] w0 fun e w' => e = .returned (.bool true) ∧ Below w0.heap.size w0 w' := by
    have := tmay_any t A c w0 (TIn.below t hI hb0 (Nat.le_refl _)) (hg.below hb0 hg.pos)
    rwa [hm] at this
  gi_upto_region 3 with (gi_at_call 25; refine (callsIn_wide.2 hMay).mono ?_; rintro e w9 ⟨rfl, hb9⟩)
  have L09 := L0.below hb9 L0.lt
  have L19 := L1.below hb9 L1.lt
  have L29 := L2.below hb9 L2.lt
  clear c0 c1 c2 c3 c4 hMay
  gi_upto_region 4 with fail
  obtain ⟨w1, hw1⟩ : ∃ w1, w1 = (w9.alloc (.map #[] 0)).alloc (.cells #[.map (some w9.heap.size)] 49) := ⟨_, rfl⟩
  have hs1 : w1.heap.size = w9.heap.size + 2 := by rw [hw1]; simp
  have hs9 := hb9.size
  have hb1 : Below w9.heap.size w9 w1 := by rw [hw1]; exact ((Below.refl _ _).alloc (Nat.le_refl _) _).alloc (by simp) _
  have hMB : Lies w1 (w9.heap.size + 1) 49 #[.map (some w9.heap.size)] := by rw [hw1]; exact lies_nextS _ _ _ _ (by simp)
  have hM1 : MapS w1 w9.heap.size 0 (arN []) := by
    have h := (MapS.made w9).heap (w' := w1) (by rw [hw1]; exact Below.heap_alloc _ _ _ (by simp))
    exact h.eq fun v => rfl
  rw [← hw1]
  clear hw1
  obtain ⟨bm, hbm⟩ : ∃ bm, bm = w9.heap.size := ⟨_, rfl⟩
  obtain ⟨MB, hMBe⟩ : ∃ MB, MB = w9.heap.size + 1 := ⟨_, rfl⟩
  obtain ⟨R1, hR1⟩ : ∃ R1, R1 = w.heap.size + 1 := ⟨_, rfl⟩
  obtain ⟨R2, hR2⟩ : ∃ R2, R2 = w.heap.size + 1 + 1 := ⟨_, rfl⟩
  have L01 := L09.below hb1 L09.lt
  have L11 := L19.below hb1 L19.lt
  have L21 := L29.below hb1 L29.lt
  have hbw1 : Below w.heap.size w w1 := (hb0.trans (hb9.mono (by omega))).trans (hb1.mono (by omega))
  have hord : w.heap.size < R1 ∧ R1 < R2 ∧ R2 < bm ∧ bm < MB ∧ MB < w1.heap.size := by omega
  rw [← hR2] at L21 ⊢
  rw [← hR1] at L11 ⊢
  rw [← hMBe] at hMB
  rw [← hMBe, ← hbm]
  rw [← hbm] at hMB hM1
  clear hbm hMBe hR1 hR2 hs1 hs0 hs9 hb9 hb1 hb0 L0 L1 L2 L09 L19 L29
  obtain ⟨c0, c1, c2, c3, c4⟩ := five_cellsS L01
  have hcons : Calls Tryz.prog 26 #[.agg #[.int .i64 t.kind, .string t.name, .int .i64 t.n, .int .i64 t.place, .slice A t.parts.length (capF t.parts.length c)]] w1 fun e w' => ∃ A' c', e = .returned (.slice A' (consT t).length c') ∧ w'.ownsRow w1.heap.size 43 2 (.slice A' (consT t).length c') (consT t).length (cellsA (consT t)) ∧ Below w1.heap.size w1 w' :=
    cons_any t A c w1 hd hs ht (TIn.below t hI hbw1 (Nat.le_refl _))
  obtain ⟨AA, hAA⟩ : ∃ AA, AA = consT t := ⟨_, rfl⟩
  have HAA := Lib.hid hAA
  rw [← hAA] at hcons hle hln
  obtain ⟨m, hml⟩ : ∃ m, m = AA.length := ⟨_, rfl⟩
  rw [← hml] at hcons hln
  have HML := Lib.hid hml
  have HLE := Lib.hid hle
  have HG := Lib.hid hg
  have HI := Lib.hid hI
  clear hAA hml hle hg hI hm
  gi_upto_region 5 with (gi_at_call 26; refine (callsIn_wide.2 hcons).mono ?_; rintro e w2 ⟨A', c', rfl, hrow, hb2⟩)
  have hAI : AIn w2 (fun g => w1.heap.size ≤ g) AA A' := AIn.owned (n := m) (c := c') hrow
  have hs2 := hb2.size
  have hM2 := hM1.below hb2 hM1.lt
  have hMB2 := (World.cell?_of_block (hb2.block MB (by omega))).trans (hMB.cell 0)
  simp at hMB2
  have HX : Hid (∀ wr, w2.grownBy wr (some bm) → AIn wr (fun g => w1.heap.size ≤ g) AA A' ∧ wr.cell? ⟨MB, 0, none⟩ = some (.map (some bm))) := Lib.hid fun wr hgr =>
    ⟨hAI.keep fun g j hX hlt => ⟨World.cell?_of_block (hgr.block g hlt (fun e => by injection e with e; omega)), hX⟩, (World.cell?_of_block (hgr.block MB (by omega) (fun e => by injection e with e; omega))).trans hMB2⟩
  have HM2 := Lib.hid hM2
  have HB2 := Lib.hid hb2
  have HMB := Lib.hid hMB
  have HR1 := Lib.hid L11
  have HR2 := Lib.hid L21
  have HBW := Lib.hid hbw1
  have HL01 := Lib.hid L01
  clear hAI hM2 hMB2 hM1 hb2 hrow hcons L11 L21 hbw1 L01 hMB c0 c1 c2 c3 c4
  gi_loopw [16] (fun x wr => ∃ j : Nat, j ≤ m ∧ x = .int .i64 j ∧ Hid (MapS wr bm j (arN (AA.take j)) ∧ w2.grownBy wr (some bm))) (fun x _ => m - (intOf x).toNat)
  case atStart => exact ⟨0, by omega, rfl, Lib.hid ⟨HM2.out.eq fun v => rfl, World.grownBy.refl _ _⟩⟩
  case round =>
    obtain ⟨j, hj, rfl, hH⟩ := hrel
    by_cases hlt : j < m
    · have hjl : j < AA.length := by have := HML.out; omega
      obtain ⟨g, o, hA, hXg, d0, d1⟩ := (HX.out _ hH.out.2).1 j hjl
      subst hA
      have hMBr := (HX.out _ hH.out.2).2
      have hle := HLE.out (AA[j]'hjl) (List.getElem_mem hjl)
      have hsn := arN_snoc (AA.take j) (AA[j]'hjl)
      have htk := List.take_succ_eq_append_getElem hjl
      rw [← htk] at hsn
      generalize AA[j]'hjl = p at d0 d1 hle hsn htk
      obtain ⟨s, n⟩ := p
      have HSN := Lib.hid hsn
      clear htk hsn
      gi_upto_region 7 with fail
      obtain ⟨q, D, hown0, hq, hD⟩ := hH.out.1
      have hmap : Maps.IsMap D := by obtain ⟨es, clock, _, _, _, hD⟩ := hown0; exact ⟨_, hD⟩
      have hkey : keyOf Tryz.prog 9 (.string s) = some (.string s.data.toList) := Go.WideMaps.keyOf_string_mk Tryz.underlying9 (by unfold maxLen; have := hle.1; simp only at this; omega)
      have hn9 : 0 ≤ n ∧ n ≤ 9 := hle.2
      obtain ⟨W7, hW7⟩ : ∃ W7, W7 = wr.alloc (.cells #[.string s, .int .i64 n] 43) := ⟨_, rfl⟩
      have hb7 : Below wr.heap.size wr W7 := by rw [hW7]; exact (Below.refl _ _).alloc (Nat.le_refl _) _
      have L7 : Lies W7 wr.heap.size 43 #[.string s, .int .i64 n] := by rw [hW7]; exact Lies.new _ _ _
      have e0 : W7.cell? ⟨wr.heap.size, 0, none⟩ = some (.string s) := L7.cell 0
      have e1 : W7.cell? ⟨wr.heap.size, 1, none⟩ = some (.int .i64 n) := L7.cell 1
      have hMB7 := (World.cell?_of_block (hb7.block MB (World.block_lt_of_cell? _ _ hMBr))).trans hMBr
      have hown : W7.ownsMap Tryz.prog 9 (plainElem Tryz.prog 3) bm q D := by
        obtain ⟨es, clock, hw, F, hs9, hD9⟩ := hown0
        exact ⟨es, clock, (hb7.block bm (Array.getElem?_eq_some_iff.1 hw).1).trans hw, F, hs9, hD9⟩
      rw [← hW7]
      have HP : Hid (∀ w', w'.ownsMap Tryz.prog 9 (plainElem Tryz.prog 3) bm (q + 1) (D.put (.string s.data.toList) (.lit (.int .i64 n))) → MapS w' bm (j + 1) (arN (AA.take (j + 1)))) := Lib.hid fun w' h => by
        rw [HSN.out]
        exact MapS.put h hq hmap hD
      have HGR : Hid (∀ w', W7.grownBy w' (some bm) → w2.grownBy w' (some bm)) := Lib.hid fun w' hg => hH.out.2.trans ⟨hg.os.trans hb7.os, hg.tape.trans hb7.tape, hg.output.trans hb7.output, Nat.le_trans hb7.size hg.size, fun i hi hn => (hg.block i (by have := hb7.size; omega) hn).trans (hb7.block i hi)⟩
      clear hW7 hb7 L7 hMBr hown0 hD hmap d0 d1 hle HSN
      gi_wp2_with (gi_at_mapUpdate; refine wpListIn_mapUpdate_own _ rfl _ _ _ 49 rfl 9 3 (Maps.string_keyed Tryz.underlying9) Tryz.underlying49 _ bm q D rfl hown (by simp only [maxLen]; omega) _ _ _ rfl rfl hkey _ [] (plainElem_int Tryz.underlying3 (int_wf (by omega) (by omega))) ?_; intro w8 hown1 hgrow1)
      have HO := Lib.hid (HP.out _ hown1)
      have HG2 := Lib.hid (HGR.out _ hgrow1)
      clear hown1 hgrow1 hown
      go_roundw
      case rel =>
        go_light
        exact ⟨j + 1, by omega, by go_num, Lib.hid ⟨HO.out, HG2.out⟩⟩
      case measure => simp [intOf]; omega
    · have hjm : j = m := by omega
      subst hjm
      have hMr := hH.out.1
      have hgr := hH.out.2
      rw [List.take_of_length_le (by have := HML.out; omega)] at hMr
      have hgs := hgr.size
      have hMBr := (HX.out _ hgr).2
      have hk1 : ∀ k, k < w1.heap.size → k ≠ bm → wr.heap[k]? = w1.heap[k]? := fun k hk hne => (hgr.block k (by omega) (fun e => by injection e with e; exact hne e)).trans (HB2.out.block k hk)
      have L01 := (hk1 _ HL01.out.lt (by omega)).trans HL01.out
      have L11 := (hk1 _ HR1.out.lt (by omega)).trans HR1.out
      have L21 := (hk1 _ HR2.out.lt (by omega)).trans HR2.out
      have hbwr : Below w.heap.size w wr := ⟨hgr.os.trans (HB2.out.os.trans HBW.out.os), hgr.tape.trans (HB2.out.tape.trans HBW.out.tape), hgr.output.trans (HB2.out.output.trans HBW.out.output), by have := HBW.out.size; omega, fun k hk => (hk1 k (by have := HBW.out.size; omega) (by omega)).trans (HBW.out.block k hk)⟩
      obtain ⟨c0, c1, c2, c3, c4⟩ := five_cellsS L01
      have HJ : Hid (j ≤ 1000000000) := Lib.hid (by omega)
      clear hgr hk1 hgs L01
      gi_wp2_with (gi_at_call 27; refine (callsIn_wide.2 (spotsF_any _ _ _ _ _ _ _ _)).mono ?_; rintro e w' ⟨rfl, rfl⟩)
      have L2 := Lies.new wr 24 #[.int .i64 t.kind, .string t.name, .int .i64 t.n, .int .i64 t.place, .slice A t.parts.length (capF t.parts.length c)]
      have hb7 : Below wr.heap.size wr (wr.alloc (.cells #[.int .i64 t.kind, .string t.name, .int .i64 t.n, .int .i64 t.place, .slice A t.parts.length (capF t.parts.length c)] 24)) := (Below.refl _ _).alloc (Nat.le_refl _) _
      have hbw7 : Below w.heap.size w (wr.alloc (.cells #[.int .i64 t.kind, .string t.name, .int .i64 t.n, .int .i64 t.place, .slice A t.parts.length (capF t.parts.length c)] 24)) := hbwr.trans (hb7.mono hbwr.size)
      have L17 := Lies.below L11 hb7 (Lies.lt L11)
      have L27 := Lies.below L21 hb7 (Lies.lt L21)
      have hMB7 := (World.cell?_of_block (hb7.block MB (World.block_lt_of_cell? _ _ hMBr))).trans hMBr
      have hM7 := (hMr.below hb7 hMr.lt).mono HJ.out
      generalize wr.alloc (.cells #[.int .i64 t.kind, .string t.name, .int .i64 t.n, .int .i64 t.place, .slice A t.parts.length (capF t.parts.length c)] 24) = w7 at L2 hb7 hbw7 L17 L27 hMB7 hM7 ⊢
      rename_i K2 hK2
      clear c0 c1 c2 c3 c4 L11 L21 hMBr hMr
      have hwr : w.heap.size ≤ wr.heap.size := hbwr.size
      refine spots_range wr.heap.size t A c (X := (· < w.heap.size)) (Z0 := ZC R1 R2 MB bm) (I := ChkI AA R1 R2 MB bm (arN AA)) (Ix := ChkX AA R1 R2 MB bm) rfl rfl (ChkI.stands _ _ _ _ _ _) (ChkX.stands _ _ _ _ _) hd hs ht
        L2 (TIn.below _ (tin_ltS HI.out) hbw7 (Nat.le_refl _)) (fun q hq => ⟨by have := hbw7.size; omega, fun h => by rcases h with h | h | h | h <;> omega⟩) ⟨rfl, L17, L27, hMB7, hM7, rfl⟩
        (fun x Ax cx S => { tmps := #[.agg #[.int .i64 t.kind, .string t.name, .int .i64 t.n, .int .i64 t.place, .slice A t.parts.length (capF t.parts.length c)], .pointer (some ⟨w.heap.size, 0, none⟩), .pointer (some ⟨R1, 0, none⟩), .pointer (some ⟨R2, 0, none⟩), .pointer (some ⟨MB, 0, none⟩), undef, u6, .pointer (some ⟨S, 0, none⟩), undef, .agg #[.int .i64 t.kind, .string t.name, .int .i64 t.n, .int .i64 t.place, .slice A t.parts.length (capF t.parts.length c)], .bool true, .bool false, .map (some bm), .agg #[.int .i64 t.kind, .string t.name, .int .i64 t.n, .int .i64 t.place, .slice A t.parts.length (capF t.parts.length c)], .slice A' j c', .int .i64 j, .int .i64 j, .bool false, u18, u19, u20, u21, u22, u23, u24, u25, .agg #[.int .i64 t.kind, .string t.name, .int .i64 t.n, .int .i64 t.place, .slice A t.parts.length (capF t.parts.length c)], .func (.func 42) #[] #[.pointer (some ⟨wr.heap.size, 0, none⟩)], sv x Ax cx, undef, undef, undef, undef, undef, undef, undef, undef, undef], defers := [] }) ?assign ?body ?done ?stop
      case assign =>
        intro l x Ax cx U K hK
        have e : sv x Ax cx = .agg #[.int .i64 x.t.kind, .string x.t.name, .int .i64 x.t.n, .int .i64 x.t.place, .slice Ax x.t.parts.length (capF x.t.parts.length cx), .bool x.free, .bool x.twin] := rfl
        rw [e] at hK ⊢
        gi_wp2
        exact hK
      case body =>
        rintro l pre x Ax cx Z S V hsz hZS LS hTx ⟨rfl, LR1, LR2, hcm, hmv, hf0⟩ hpre
        obtain ⟨hmem, hplen⟩ := mem_of_pre hpre
        have hok := okS t [] false ht x hmem
        obtain ⟨d0, d1, d2, d3, d4, d5, d6⟩ := seven_cells LS
        have hfault : Calls Tryz.prog 28 #[.agg #[.int .i64 x.t.kind, .string x.t.name, .int .i64 x.t.n, .int .i64 x.t.place, .slice Ax x.t.parts.length (capF x.t.parts.length cx), .bool x.free, .bool x.twin], .map (some bm)] V fun e w' => e = .returned (.int .i64 (badS AA x)) ∧ Below V.heap.size V w' :=
          fault_any AA bm 1000000000 (arN AA) x Ax cx V hok (TIn.any _ hTx) hmv (Nat.le_refl _) (fun h => by have h2 := HAA.out; rw [h2]; exact cons_has hmem h)
        have hone : firstS AA (pre ++ [x]) = if badS AA x ≠ 0 then (x.t.place, badS AA x) else (0, 0) := by
          rw [firstS_app, if_neg (by rw [hf0]; simp), firstS, firstS]
        obtain ⟨bad, hbad⟩ : ∃ bad, bad = badS AA x := ⟨_, rfl⟩
        rw [← hbad] at hfault hone
        generalize sv x Ax cx = svx
        obtain ⟨pl, hpl⟩ : ∃ pl, pl = x.t.place := ⟨_, rfl⟩
        have d3' := d3
        rw [← hpl] at d3' hone
        have HONE := Lib.hid hone
        have HX9 : Hid (∀ v1, Below V.heap.size V v1 → Lies v1 R1 3 #[.int .i64 0] ∧ Lies v1 R2 27 #[.int .i64 0] ∧ v1.cell? ⟨MB, 0, none⟩ = some (.map (some bm)) ∧ MapS v1 bm 1000000000 (arN AA) ∧ v1.cell? ⟨S, 3, none⟩ = some (.int .i64 pl)) := Lib.hid fun v1 hb =>
          ⟨Lies.below LR1 hb (Lies.lt LR1), Lies.below LR2 hb (Lies.lt LR2), (World.cell?_of_block (hb.block MB (World.block_lt_of_cell? _ _ hcm))).trans hcm, hmv.below hb hmv.lt, (World.cell?_of_block (hb.block S (World.block_lt_of_cell? _ _ d3))).trans d3'⟩
        have hne12 : R1 ≠ R2 := by omega
        clear hone hbad hpl d3' hpre hmem hplen hok hTx LR1 LR2 hmv hf0 LS
        by_cases hb0 : bad = 0
        · subst hb0
          gi_wp2_with (gi_at_call 28; refine (callsIn_wide.2 hfault).mono ?_; rintro e v1 ⟨rfl, hbv⟩)
          obtain ⟨l1, l2, l3, l4, l5⟩ := HX9.out _ hbv
          exact ⟨_, Gz.of_below hbv (Nat.le_refl _), rfl, l1, l2, l3, l4, by rw [HONE.out]; rfl⟩
        · have hbe : (bad != 0) = true := by simpa using hb0
          have HB0 := Lib.hid hb0
          clear hb0
          gi_wp2_with (gi_at_call 28; refine (callsIn_wide.2 hfault).mono ?_; rintro e v1 ⟨rfl, hbv⟩; obtain ⟨l1, l2, l3, l4, l5⟩ := HX9.out _ hbv; have x0 : v1.cell? ⟨R1, 0, none⟩ = some (.int .i64 0) := Lies.cell l1 0; have x1 : v1.frozen? ⟨R1, 0, none⟩ = false := Lies.frozen l1 0; have y0 : v1.cell? ⟨R2, 0, none⟩ = some (.int .i64 0) := Lies.cell l2 0; have y1 : v1.frozen? ⟨R2, 0, none⟩ = false := Lies.frozen l2 0)
          have p1 : Lies ((v1.setCell ⟨R1, 0, none⟩ (.int .i64 pl)).setCell ⟨R2, 0, none⟩ (.int .i64 bad)) R1 3 #[.int .i64 pl] := by
            have h1 := Lies.put l1 0 (.int .i64 pl)
            exact Lies.far (p := ⟨R2, 0, none⟩) (by simpa using h1) hne12 _
          have p2 : Lies ((v1.setCell ⟨R1, 0, none⟩ (.int .i64 pl)).setCell ⟨R2, 0, none⟩ (.int .i64 bad)) R2 27 #[.int .i64 bad] := by
            have h1 : Lies (v1.setCell ⟨R1, 0, none⟩ (.int .i64 pl)) R2 27 #[.int .i64 0] := Lies.far (p := ⟨R1, 0, none⟩) l2 (fun e => hne12 e.symm) _
            simpa using Lies.put h1 0 (.int .i64 bad)
          have hfin : firstS AA (pre ++ [x]) = (pl, bad) := by rw [HONE.out, if_pos HB0.out]
          have hsz2 : ((v1.setCell ⟨R1, 0, none⟩ (.int .i64 pl)).setCell ⟨R2, 0, none⟩ (.int .i64 bad)).heap.size = v1.heap.size := by simp [World.setCell]
          have q1 := World.block_lt_of_cell? _ _ l3
          have q2 := l4.lt
          refine ⟨ZC R1 R2 MB bm, ((Gz.of_below hbv (Nat.le_refl _)).setCellZS _ _ (.inl rfl)).setCellZS _ _ (.inr (.inl rfl)), rfl, by rw [hfin]; exact p1, by rw [hfin]; exact p2, by rw [hfin]; exact HB0.out, by rw [hsz2]; exact q1, by rw [hsz2]; exact q2⟩
      case done =>
        rintro D Z V hD hDV hZD hG ⟨rfl, LR1, LR2, hcm, hmv, hf0⟩ hdef
        have hbV : Below w.heap.size w V := gz_belowS hbw7 (fun q hq => by rcases hq with h | h | h | h <;> omega) hG
        have hfz : firstS (consT t) (spotsT [] false t) = (0, 0) := by
          have h2 := HAA.out
          rw [← h2]
          rcases hE : firstS AA (spotsT [] false t) with ⟨a1, a2⟩
          rw [hE] at hf0
          have e2 : a2 = 0 := hf0
          subst e2
          exact congrArg (fun z => (z, (0 : Int))) (firstS_zero _ _ _ hE)
        have hd1 : D ≠ R1 := fun e => hZD (.inl e)
        have hd2 : D ≠ R2 := fun e => hZD (.inr (.inl e))
        have hne12 : R1 ≠ R2 := by omega
        have x0 : V.cell? ⟨R1, 0, none⟩ = some (.int .i64 0) := Lies.cell LR1 0
        have x1 : V.frozen? ⟨R1, 0, none⟩ = false := Lies.frozen LR1 0
        have y0 : V.cell? ⟨R2, 0, none⟩ = some (.int .i64 0) := Lies.cell LR2 0
        have y1 : V.frozen? ⟨R2, 0, none⟩ = false := Lies.frozen LR2 0
        have p1 : Lies ((V.setCell ⟨R1, 0, none⟩ (.int .i64 0)).setCell ⟨R2, 0, none⟩ (.int .i64 0)) R1 3 #[.int .i64 0] := by
          have h1 := Lies.put LR1 0 (.int .i64 0)
          exact Lies.far (p := ⟨R2, 0, none⟩) (by simpa using h1) hne12 _
        have p2 : Lies ((V.setCell ⟨R1, 0, none⟩ (.int .i64 0)).setCell ⟨R2, 0, none⟩ (.int .i64 0)) R2 27 #[.int .i64 0] := by
          have h1 : Lies (V.setCell ⟨R1, 0, none⟩ (.int .i64 0)) R2 27 #[.int .i64 0] := Lies.far (p := ⟨R1, 0, none⟩) LR2 (fun e => hne12 e.symm) _
          simpa using Lies.put h1 0 (.int .i64 0)
        have hd4 : ((V.setCell ⟨R1, 0, none⟩ (.int .i64 0)).setCell ⟨R2, 0, none⟩ (.int .i64 0)).heap[D]? = some (.deferred (some [])) := (Below.heap_setCell _ _ _ _ hd2).trans ((Below.heap_setCell _ _ _ _ hd1).trans hdef)
        have hbV2 : Below w.heap.size w ((V.setCell ⟨R1, 0, none⟩ (.int .i64 0)).setCell ⟨R2, 0, none⟩ (.int .i64 0)) := (hbV.setCell (p := ⟨R1, 0, none⟩) (by show w.heap.size ≤ R1; omega) _).setCell (p := ⟨R2, 0, none⟩) (by show w.heap.size ≤ R2; omega) _
        clear LR1 LR2 hcm hmv hf0 hbV hG
        simp only [Exit.inBlock, Exit.then]
        refine hK2 _ _ ?_
        gi_wp2
        refine ends1 hd4 (results_chkS rfl _ (g1 := R1) (g2 := R2) (x := 0) (y := 0) rfl rfl ((World.cell?_of_block (World.putObj_heap_other (fun e => hd1 e.symm))).trans (Lies.cell p1 0)) ((World.cell?_of_block (World.putObj_heap_other (fun e => hd2 e.symm))).trans (Lies.cell p2 0))) ⟨by rw [hfz], below_putS hbV2 (by have := hbw7.size; omega)⟩
      case stop =>
        rintro D Z V q hD hDV hZD hq hG ⟨rfl, LR1, LR2, hf0, _, _⟩ hdef
        have hbV : Below w.heap.size w V := gz_belowS hbw7 (fun q hq => by rcases hq with h | h | h | h <;> omega) hG
        have hfz : firstS (consT t) (spotsT [] false t) = firstS AA q := by
          have h2 := HAA.out
          rw [← h2]
          obtain ⟨r, hr⟩ := hq
          rw [← hr, firstS_app, if_pos hf0]
        have hd1 : D ≠ R1 := fun e => hZD (.inl e)
        have hd2 : D ≠ R2 := fun e => hZD (.inr (.inl e))
        simp only [Exit.inBlock, Exit.then]
        refine ends1 hdef (results_chkS rfl _ (g1 := R1) (g2 := R2) (x := (firstS AA q).1) (y := (firstS AA q).2) rfl rfl ((World.cell?_of_block (World.putObj_heap_other (fun e => hd1 e.symm))).trans (Lies.cell LR1 0)) ((World.cell?_of_block (World.putObj_heap_other (fun e => hd2 e.symm))).trans (Lies.cell LR2 0))) ⟨by rw [hfz], below_putS hbV (by have := hbw7.size; omega)⟩
end Lx
end Go.Proofs.YtobdoahdjbmflaaGreatDoor
namespace Go.Proofs
open Go.Shelf
def Tryz.lays190_ren : Go.Shelf.Ren := ⟨fun | 125 => 52 | 128 => 80 | 129 => 81 | 190 => 32 | 258 => 51 | 302 => 71 | 303 => 72 | 304 => 73 | 305 => 74 | 306 => 75 | 307 => 76 | 308 => 77 | 309 => 78 | 310 => 79 | 329 => 96 | 330 => 97 | 333 => 95 | 334 => 98 | 335 => 99 | 336 => 100 | 344 => 105 | n => n, fun | 0 => 0 | 3 => 3 | 4 => 4 | 5 => 5 | 9 => 9 | 31 => 31 | 46 => 84 | 51 => 111 | 53 => 113 | 131 => 76 | 182 => 103 | 183 => 104 | 218 => 123 | 222 => 127 | 228 => 130 | 229 => 131 | n => n, fun | n => n⟩
theorem Tryz.lays190 : Go.Proofs.Lays.n190 Tryz.prog Tryz.lays190_ren := {
  mixed := by kernel_rfl
  f125 := Tryz.func52.trans (congrArg some (by kernel_rfl))
  f128 := Tryz.func80.trans (congrArg some (by kernel_rfl))
  f129 := Tryz.func81.trans (congrArg some (by kernel_rfl))
  f190 := Tryz.func32.trans (congrArg some (by kernel_rfl))
  f258 := Tryz.func51.trans (congrArg some (by kernel_rfl))
  f302 := Tryz.func71.trans (congrArg some (by kernel_rfl))
  f303 := Tryz.func72.trans (congrArg some (by kernel_rfl))
  f304 := Tryz.func73.trans (congrArg some (by kernel_rfl))
  f305 := Tryz.func74.trans (congrArg some (by kernel_rfl))
  f306 := Tryz.func75.trans (congrArg some (by kernel_rfl))
  f307 := Tryz.func76.trans (congrArg some (by kernel_rfl))
  f308 := Tryz.func77.trans (congrArg some (by kernel_rfl))
  f309 := Tryz.func78.trans (congrArg some (by kernel_rfl))
  f310 := Tryz.func79.trans (congrArg some (by kernel_rfl))
  f329 := Tryz.func96.trans (congrArg some (by kernel_rfl))
  f330 := Tryz.func97.trans (congrArg some (by kernel_rfl))
  f333 := Tryz.func95.trans (congrArg some (by kernel_rfl))
  f334 := Tryz.func98.trans (congrArg some (by kernel_rfl))
  f335 := Tryz.func99.trans (congrArg some (by kernel_rfl))
  f336 := Tryz.func100.trans (congrArg some (by kernel_rfl))
  f344 := Tryz.func105.trans (congrArg some (by kernel_rfl))
  t0 := Tryz.underlying0
  a0 := Tryz.isAgg0
  z0 := Tryz.sizeOf0
  v0 := Tryz.zeroValue0
  t3 := Tryz.underlying3
  a3 := Tryz.isAgg3
  z3 := Tryz.sizeOf3
  v3 := Tryz.zeroValue3
  t4 := Tryz.underlying4
  a4 := Tryz.isAgg4
  z4 := Tryz.sizeOf4
  v4 := Tryz.zeroValue4
  t5 := Tryz.underlying5
  a5 := Tryz.isAgg5
  z5 := Tryz.sizeOf5
  v5 := Tryz.zeroValue5
  t9 := Tryz.underlying9
  a9 := Tryz.isAgg9
  z9 := Tryz.sizeOf9
  v9 := Tryz.zeroValue9
  t31 := Tryz.underlying31
  a31 := Tryz.isAgg31
  z31 := Tryz.sizeOf31
  v31 := Tryz.zeroValue31
  t46 := Tryz.underlying84
  a46 := Tryz.isAgg84
  z46 := Tryz.sizeOf84
  v46 := Tryz.zeroValue84
  t51 := Tryz.underlying111
  a51 := Tryz.isAgg111
  z51 := Tryz.sizeOf111
  v51 := Tryz.zeroValue111
  t53 := Tryz.underlying113
  a53 := Tryz.isAgg113
  z53 := Tryz.sizeOf113
  v53 := Tryz.zeroValue113
  t131 := Tryz.underlying76
  a131 := Tryz.isAgg76
  z131 := Tryz.sizeOf76
  v131 := Tryz.zeroValue76
  t182 := Tryz.underlying103
  a182 := Tryz.isAgg103
  z182 := Tryz.sizeOf103
  v182 := Tryz.zeroValue103
  t183 := Tryz.underlying104
  a183 := Tryz.isAgg104
  z183 := Tryz.sizeOf104
  v183 := Tryz.zeroValue104
  t218 := Tryz.underlying123
  a218 := Tryz.isAgg123
  z218 := Tryz.sizeOf123
  v218 := Tryz.zeroValue123
  t222 := Tryz.underlying127
  a222 := Tryz.isAgg127
  z222 := Tryz.sizeOf127
  v222 := Tryz.zeroValue127
  t228 := Tryz.underlying130
  a228 := Tryz.isAgg130
  z228 := Tryz.sizeOf130
  v228 := Tryz.zeroValue130
  t229 := Tryz.underlying131
  a229 := Tryz.isAgg131
  z229 := Tryz.sizeOf131
  v229 := Tryz.zeroValue131
}
open Go.Sort Go.RowKit in
theorem Tryz.slices_Sort_string (blk off cap : Nat) (ss : List (List UInt8)) (w : World) (hH : Holds encStr w blk off ss.toArray) (hblk : blk < w.heap.size) (hsz : ss.length < 4611686018427387904) :
    Calls Tryz.prog 32 #[.slice (some ⟨blk, off, none⟩) ss.length cap] w fun e w' =>
      e = .returned (.tuple #[]) ∧ ∃ n os, w' = grow (putRow encStr (Sort.ahead w n) blk off (ss.mergeSort fun x y => decide (x ≤ y)).toArray) os :=
  Any.slices_Sort_string Tryz.lays190 blk off cap ss w hH hblk hsz
open Go.Sort Go.RowKit in
theorem Tryz.slices_Sort_string_none (p : Option Addr) (cap : Nat) (w : World) :
    Calls Tryz.prog 32 #[.slice p 0 cap] w fun e w' => e = .returned (.tuple #[]) ∧ w' = w :=
  Any.slices_Sort_string_none Tryz.lays190 p cap w
end Go.Proofs
namespace Go.Proofs.YtobdoahdjbmflaaGreatDoor
open Go Go.RowKit
namespace Lx
set_option maxRecDepth 100000
abbrev vS (l : List (List UInt8)) : List Value := l.map encStr
theorem ahead_rowS (w : World) (q g : Nat) (ys : List (List UInt8)) (cur : Array Value) (e : TypeId) (h : w.heap[g]? = some (.cells cur e (0, 0))) :
    (Sort.putRow encStr (Sort.ahead w q) g 0 ys.toArray).heap[g]? = some (.cells (Sort.putCells encStr 0 ys.toArray cur) e (0, 0)) := by
  show (w.heap.modify g (Sort.onCells (Sort.putCells encStr 0 ys.toArray)))[g]? = _
  rw [Array.getElem?_modify, if_pos rfl, h]
  rfl
theorem ahead_otherS (w : World) (q g k : Nat) (ys : List (List UInt8)) (hk : k ≠ g) : (Sort.putRow encStr (Sort.ahead w q) g 0 ys.toArray).heap[k]? = w.heap[k]? := by
  simp [Sort.putRow, Sort.mapBlock, Sort.ahead, Array.getElem?_modify, Ne.symm hk]
theorem put_takeS (ys : List (List UInt8)) (cur : Array Value) (m : Nat) (hm : m ≤ ys.length) (h : ys.length ≤ cur.size) : (Sort.putCells encStr 0 ys.toArray cur).toList.take m = vS (ys.take m) := by
  apply List.ext_getElem?
  intro j
  by_cases hj : j < m
  · rw [List.getElem?_take_of_lt hj]
    have h1 : j < ys.length := by omega
    have h2 : j < cur.size := by omega
    simp [Sort.putCells, vS, h1, h2, hj]
  · rw [List.getElem?_eq_none (by simp; omega), List.getElem?_eq_none (by simp [vS]; omega)]
theorem putCells_sizeS (ys : List (List UInt8)) (cur : Array Value) : (Sort.putCells encStr 0 ys.toArray cur).size = cur.size := by simp [Sort.putCells]
/-- Behind a call that lays other numbers into a row, the first ones are the row. -/
theorem row_putS {w : World} {b g n c : Nat} {xs : List (List UInt8)} (h : w.ownsRow b 9 1 (.slice (some ⟨g, 0, none⟩) n c) n (vS xs)) (q : Nat) (ys : List (List UInt8)) (hy : ys.length = n) (m : Nat) (hm : m ≤ n) (os : Array Obj) :
    (Sort.grow (Sort.putRow encStr (Sort.ahead w q) g 0 ys.toArray) os).ownsRow b 9 1 (.slice (some ⟨g, 0, none⟩) m c) m (vS (ys.take m)) ∧ w.grownBy (Sort.grow (Sort.putRow encStr (Sort.ahead w q) g 0 ys.toArray) os) (some g) := by
  obtain ⟨hl, ⟨h1, _⟩ | ⟨g', cap, cur, h1, h2, h3, h4, h5, h6, h7⟩⟩ := h
  · cases h1
  · injection h1 with h1 _ hc
    injection h1 with h1
    injection h1 with h1
    subst h1 hc
    have hg := (Array.getElem?_eq_some_iff.1 h3).1
    have hs : (Sort.putRow encStr (Sort.ahead w q) g 0 ys.toArray).heap.size = w.heap.size := by simp [Sort.putRow, Sort.mapBlock, Sort.ahead]
    have hgr : ∀ k, k < w.heap.size → (Sort.grow (Sort.putRow encStr (Sort.ahead w q) g 0 ys.toArray) os).heap[k]? = (Sort.putRow encStr (Sort.ahead w q) g 0 ys.toArray).heap[k]? := fun k hk => by
      simp only [Sort.grow]
      rw [Array.getElem?_append_left (by rw [hs]; exact hk)]
    refine ⟨⟨by simp [vS]; omega, .inr ⟨g, c, Sort.putCells encStr 0 ys.toArray cur, rfl, h2, (hgr g hg).trans (ahead_rowS w q g ys cur _ h3), by omega, h5, by rw [putCells_sizeS]; exact h6, ?_⟩⟩, ⟨rfl, rfl, rfl, by simp only [Sort.grow, Array.size_append, hs]; omega, fun k hk hne => ?_⟩⟩
    · rw [Nat.mul_one]; exact put_takeS ys cur m (by omega) (by omega)
    · exact (hgr k hk).trans (ahead_otherS w q g k ys (fun e => hne (by rw [e])))
theorem row_holdsS {w : World} {b g n c : Nat} {xs : List (List UInt8)} (h : w.ownsRow b 9 1 (.slice (some ⟨g, 0, none⟩) n c) n (vS xs)) : Sort.Holds encStr w g 0 xs.toArray ∧ g < w.heap.size ∧ xs.length = n ∧ n ≤ c := by
  obtain ⟨hl, ⟨h1, _⟩ | ⟨g', cap, cur, h1, h2, h3, h4, h5, h6, h7⟩⟩ := h
  · cases h1
  · injection h1 with h1 _ hc
    injection h1 with h1
    injection h1 with h1
    subst h1 hc
    have hg := (Array.getElem?_eq_some_iff.1 h3).1
    have hxl : xs.length = n := by simp [vS] at hl; omega
    refine ⟨fun j hj => ?_, hg, hxl, h4⟩
    have hj2 : j < n * 1 := by simp at hj; omega
    have hjx : j < xs.length := by omega
    have e1 : (cur.toList.take (n * 1))[j]? = cur.toList[j]? := List.getElem?_take_of_lt hj2
    rw [h7] at e1
    rw [Nat.zero_add, cell_of_row w g j cur _ (0, 0) h3]
    refine ⟨?_, ?_⟩
    · have e2 : (vS xs)[j]? = some (encStr xs[j]) := by simp [vS, hjx]
      rw [e2] at e1
      have : cur[j]? = some (encStr xs[j]) := by simpa using e1.symm
      rw [this]
      simp [encStr, hjx]
    · exact (show Lies w g _ cur from h3).frozen j
theorem ownsRow_sliceS {W : World} {b e sz n : Nat} {v : Value} {xs : List Value} (h : W.ownsRow b e sz v n xs) : ∃ A c, v = .slice A n c ∧ (0 < n → ∃ g, A = some ⟨g, 0, none⟩) := by
  obtain ⟨_, ⟨h1, h2⟩ | ⟨g, cap, cur, h1, _⟩⟩ := h
  · subst h2; exact ⟨_, _, h1, fun h => absurd h (by omega)⟩
  · exact ⟨_, _, h1, fun _ => ⟨g, rfl⟩⟩
theorem sort_anyS {w : World} {b : Nat} {A : Option Addr} {c n : Nat} {xs : List (List UInt8)} (h : w.ownsRow b 9 1 (.slice A n c) n (vS xs)) (hn : n ≤ 1000000000000) :
    Calls Tryz.prog 32 #[.slice A n c] w fun e w' => e = .returned (.tuple #[]) ∧ w'.ownsRow b 9 1 (.slice A n c) n (vS (xs.mergeSort fun x y => decide (x ≤ y))) ∧ w.grownBy w' (Value.slice A n c).ownBlock := by
  have hxl : xs.length = n := by have := h.1; simp [vS] at this; omega
  by_cases h0 : n = 0
  · subst h0
    obtain rfl : xs = [] := List.eq_nil_of_length_eq_zero hxl
    refine (Tryz.slices_Sort_string_none A c w).mono ?_
    rintro e w' ⟨rfl, rfl⟩
    exact ⟨rfl, by simpa using h, ⟨rfl, rfl, rfl, Nat.le_refl _, fun _ _ _ => rfl⟩⟩
  · obtain ⟨A', c', e1, e2⟩ := ownsRow_sliceS h
    injection e1 with e1 _ e3
    subst e1 e3
    obtain ⟨g, rfl⟩ := e2 (by omega)
    obtain ⟨hH, hg, _, _⟩ := row_holdsS h
    have hq := Tryz.slices_Sort_string g 0 c xs w hH hg (by omega)
    rw [hxl] at hq
    refine hq.mono ?_
    rintro e w' ⟨rfl, q, os, rfl⟩
    have hl : (xs.mergeSort fun x y => decide (x ≤ y)).length = n := by rw [List.length_mergeSort]; exact hxl
    have := row_putS h q (xs.mergeSort fun x y => decide (x ≤ y)) hl n (Nat.le_refl _) os
    rw [List.take_of_length_le (Nat.le_of_eq hl)] at this
    exact ⟨rfl, this.1, this.2⟩
/-- Each name once. -/
def onceB : List ByteArray → List ByteArray → List ByteArray
  | a, [] => a
  | a, x :: r => if inN a x = true then onceB a r else onceB (a ++ [x]) r
theorem onceB_app : ∀ (a x y : List ByteArray), onceB a (x ++ y) = onceB (onceB a x) y
  | a, [], y => rfl
  | a, s :: x, y => by
    rw [List.cons_append, onceB, onceB]
    by_cases h : inN a s = true
    · rw [if_pos h, if_pos h]; exact onceB_app a x y
    · rw [if_neg h, if_neg h]; exact onceB_app _ x y
theorem onceB_len : ∀ (a x : List ByteArray), (onceB a x).length ≤ a.length + x.length
  | a, [] => by rw [onceB]; simp
  | a, s :: x => by
    rw [onceB, List.length_cons]
    have h1 := onceB_len a x
    have h2 := onceB_len (a ++ [s]) x
    rw [List.length_append, List.length_singleton] at h2
    split <;> omega
theorem inN_app (a b : List ByteArray) (s : ByteArray) : inN (a ++ b) s = (inN a s || inN b s) := by
  induction a with
  | nil => simp [inN]
  | cons x r ih => rw [List.cons_append, inN, inN, ih, Bool.or_assoc]
/-- Names, rising. -/
def sortB (l : List ByteArray) : List ByteArray := ((l.map fun s => s.data.toList).mergeSort fun x y => decide (x ≤ y)).map fun x => ⟨x.toArray⟩
theorem sortB_len (l : List ByteArray) : (sortB l).length = l.length := by unfold sortB; rw [List.length_map, List.length_mergeSort, List.length_map]
theorem cellsS_v (l : List ByteArray) : cellsS l = vS (l.map fun s => s.data.toList) := by
  unfold cellsS vS
  rw [List.map_map]
  rfl
theorem cellsS_sort (l : List ByteArray) : cellsS (sortB l) = vS ((l.map fun s => s.data.toList).mergeSort fun x y => decide (x ≤ y)) := by
  unfold cellsS vS sortB
  rw [List.map_map]
  rfl
/-- What is free, each once, rising. -/
def freeT (t : Tr) : List ByteArray := sortB (onceB [] (looseT [] t))
theorem sort_names {w : World} {b : Nat} {A : Option Addr} {c n : Nat} {l : List ByteArray} (h : w.ownsRow b 9 1 (.slice A n c) n (cellsS l)) (hn : n ≤ 1000000000000) :
    Calls Tryz.prog 32 #[.slice A n c] w fun e w' => e = .returned (.tuple #[]) ∧ w'.ownsRow b 9 1 (.slice A n c) n (cellsS (sortB l)) ∧ w.grownBy w' (Value.slice A n c).ownBlock := by
  rw [cellsS_v] at h
  rw [cellsS_sort]
  exact sort_anyS h hn
end Lx
end Go.Proofs.YtobdoahdjbmflaaGreatDoor
