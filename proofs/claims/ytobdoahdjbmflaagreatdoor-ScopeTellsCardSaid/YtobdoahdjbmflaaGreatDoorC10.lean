/-
  Texts that lie one behind the other: ScJ Ein Lz0 RowTe Su SuRow R7A.
-/
import Derived.Test.YtobdoahdjbmflaaGreatDoorC9
import Derived.Test.YtobdoahdjbmflaaGreatDoorC8
import Derived.Test.YtobdoahdjbmflaaGreatDoorC3
import Derived.Test.YtobdoahdjbmflaaGreatDoorC4
import Derived.Laws.MakeOwn
import Derived.Laws.Entries
namespace Go.Proofs.YtobdoahdjbmflaaGreatDoor
open Go Go.RowKit
attribute [local go_sem] Oper.semAt_some
namespace Lx
set_option maxRecDepth 100000
attribute [local go_sem] wideS_fn wideS_depth run_store_fnS
theorem region_K_calm {P : Program} {ops : Array Oper} {Q : Exit → Act → World → Prop} {n : Nat} {S : World → Prop} {l id : Nat} {a : Act} {w : World} (last : Nat) (hm : P.follows .mixedOrders = true) (hnd : noDefer ops = true) (hS : S w.drew)
    (h : S w.drew → wpAnyK P .any ops (calm Q) S last ops.size (Array.replicate ops.size false) a w.drew) : (Code.region id ops true).wpIn (Fence.wide.inRound l) n P Q a w :=
  wpIn_mono (region_K_round last hm hnd (fun ⟨_, _, h⟩ => h) hS h) calm_out
theorem freesS_snoc (pre : List Spot) (x : Spot) : freesS (pre ++ [x]) = freesS pre ++ (if x.free = true then [x.t.name] else []) := by
  rw [freesS_app]
  congr 1
  unfold freesS
  by_cases h : x.free = true
  · simp [h]
  · simp [h]
theorem cellsS_snoc9 (l : List ByteArray) (s : ByteArray) : cellsS (l ++ [s]) = cellsS l ++ [.string s] := by simp [cellsS]
/-- A row of names of one's own, its slice in a box. -/
def BoxN (S base : Nat) (l : List ByteArray) (Z : Nat → Prop) (U : World) : Prop :=
  ∃ A c, Z = (fun q => q = S ∨ (Value.slice A l.length c).ownBlock = some q) ∧ Lies U S 31 #[.slice A l.length c] ∧ (S < base ∧ base ≤ U.heap.size) ∧ U.ownsRow base 9 1 (.slice A l.length c) l.length (cellsS l)
theorem BoxN.frame {S base : Nat} {l : List ByteArray} {Z : Nat → Prop} {A B : World} (h : BoxN S base l Z A) (hsz : A.heap.size ≤ B.heap.size) (hk : ∀ k, Z k → B.heap[k]? = A.heap[k]?) : BoxN S base l Z B := by
  obtain ⟨A', c, rfl, L, hS, hr⟩ := h
  exact ⟨A', c, rfl, (hk S (.inl rfl)).trans L, ⟨hS.1, Nat.le_trans hS.2 hsz⟩, ownsRow_heap2 hr fun q hq => hk q (.inr hq)⟩
theorem BoxN.lt {S base : Nat} {l : List ByteArray} {Z : Nat → Prop} {A : World} (h : BoxN S base l Z A) : ∀ k, Z k → k < A.heap.size := by
  obtain ⟨A', c, rfl, L, hS, hr⟩ := h
  intro k hk
  rcases hk with rfl | hk
  · exact L.lt
  · exact (hr.lt k hk).2
theorem BoxN.off {S base : Nat} {l : List ByteArray} {Z : Nat → Prop} {A : World} (h : BoxN S base l Z A) {q : Nat} (hq : q < base) (hne : q ≠ S) : ¬ Z q := by
  obtain ⟨A', c, rfl, L, hS, hr⟩ := h
  exact fun hz => hz.elim hne fun h => by have := (hr.lt q h).1; omega
/-- What `Free` stands on: who was told, and the row. -/
structure TolS (T B bm LB base M : Nat) (l : List ByteArray) (Z : Nat → Prop) (U : World) : Prop where
  z : ∃ Zb, Z = (fun q => Zb q ∨ q = bm ∨ q = B ∨ q = T) ∧ BoxN LB base l Zb U
  ct : U.cell? ⟨T, 0, none⟩ = some (twinF B)
  cb : U.cell? ⟨B, 0, none⟩ = some (.map (some bm))
  m : ∃ (N : Nat) (C : ByteArray → Int), MapS U bm N C ∧ N ≤ M ∧ l.length ≤ N ∧ ∀ s, 0 ≤ C s ∧ C s ≤ N ∧ (C s = 0 ↔ inN l s = false)
  lt : T < base ∧ B < base ∧ bm < base ∧ LB < base
  ne : B ≠ bm ∧ T ≠ bm ∧ T ≠ B ∧ LB ≠ T ∧ LB ≠ B ∧ LB ≠ bm
theorem TolS.frame {T B bm LB base M : Nat} {l : List ByteArray} {Z : Nat → Prop} {U V : World} (h : TolS T B bm LB base M l Z U) (hsz : U.heap.size ≤ V.heap.size) (hk : ∀ k, Z k → V.heap[k]? = U.heap[k]?) : TolS T B bm LB base M l Z V := by
  obtain ⟨⟨Zb, rfl, hb⟩, ct, cb, ⟨N, C, hM, hN⟩, lt, ne⟩ := h
  exact ⟨⟨Zb, rfl, hb.frame hsz fun k hz => hk k (.inl hz)⟩, (World.cell?_of_block (hk T (.inr (.inr (.inr rfl))))).trans ct, (World.cell?_of_block (hk B (.inr (.inr (.inl rfl))))).trans cb,
    ⟨N, C, hM.heap (hk bm (.inr (.inl rfl))), hN⟩, lt, ne⟩
theorem TolS.below {T B bm LB base M : Nat} {l : List ByteArray} {Z : Nat → Prop} {U : World} (h : TolS T B bm LB base M l Z U) : ∀ k, Z k → k < U.heap.size := by
  obtain ⟨⟨Zb, rfl, hb⟩, ct, cb, ⟨N, C, hM, hN⟩, lt, ne⟩ := h
  have h1 : base ≤ U.heap.size := by obtain ⟨_, _, _, _, hS, _⟩ := hb; exact hS.2
  rintro k (hk | rfl | rfl | rfl)
  · exact hb.lt k hk
  all_goals omega
theorem TolS.mono {T B bm LB base M M' : Nat} {l : List ByteArray} {Z : Nat → Prop} {U : World} (h : TolS T B bm LB base M l Z U) (hM : M ≤ M') : TolS T B bm LB base M' l Z U := by
  obtain ⟨z, ct, cb, ⟨N, C, h1, h2, h3⟩, lt, ne⟩ := h
  exact ⟨z, ct, cb, ⟨N, C, h1, by omega, h3⟩, lt, ne⟩
/-- What the range in `Free` stands on. -/
def FreeI (T B bm LB base : Nat) : List Spot → (Nat → Prop) → World → Prop := fun pre Z U => TolS T B bm LB base pre.length (onceB [] (freesS pre)) Z U
theorem FreeI.stands (T B bm LB base : Nat) : StandsS (FreeI T B bm LB base) :=
  ⟨fun _ _ _ _ h hsz hk => h.frame hsz hk, fun _ _ _ h => h.below⟩
set_option maxHeartbeats 4000000 in
theorem free_any (t : Tr) (A : Option Addr) (c : Nat) (w : World) (hd : depthT t ≤ 4000) (hs : sizeT t ≤ 1000000) (ht : okT t) (hm : mayV t = true) (hI : TIn w Any t A) (hg : Signs w) :
    Calls Tryz.prog 12 #[tv t A c] w fun e w' => ∃ A' c', e = .returned (.slice A' (freeT t).length c') ∧ w'.ownsRow w.heap.size 9 1 (.slice A' (freeT t).length c') (freeT t).length (cellsS (freeT t)) ∧ Below w.heap.size w w' := by
  show Calls Tryz.prog 12 #[.agg #[.int .i64 t.kind, .string t.name, .int .i64 t.n, .int .i64 t.place, .slice A t.parts.length (capF t.parts.length c)]] w _
  refine (callsIn_wide (n := 0)).1 ?_
  refine callsIn_of_wp_marks Tryz.func12 rfl trivial ?_ rfl
  simp only [Tryz.ntmps12, List.size_toArray, List.length_cons, List.length_nil, Nat.reduceAdd, Nat.reduceSub, Array.replicate_succ, Array.replicate_zero, List.push_toArray, List.append_toArray, List.nil_append, List.cons_append]
  gi_upto_region 1 with fail
  obtain ⟨w0, hw0⟩ : ∃ w0, w0 = w.alloc (.cells #[.int .i64 t.kind, .string t.name, .int .i64 t.n, .int .i64 t.place, .slice A t.parts.length (capF t.parts.length c)] 24) := ⟨_, rfl⟩
  have hs0 : w0.heap.size = w.heap.size + 1 := by rw [hw0]; simp
  have hb0 : Below w.heap.size w w0 := by rw [hw0]; exact (Below.refl _ w).alloc (Nat.le_refl _) _
  have L0 : Lies w0 w.heap.size 24 #[.int .i64 t.kind, .string t.name, .int .i64 t.n, .int .i64 t.place, .slice A t.parts.length (capF t.parts.length c)] := by rw [hw0]; exact Lies.new _ _ _
  rw [← hw0]
  clear hw0
  obtain ⟨c0, c1, c2, c3, c4⟩ := five_cellsS L0
  have hMay : Calls Tryz.prog 25 #[.agg #[.int .i64 t.kind, .string t.name, .int .i64 t.n, .int .i64 t.place, .slice A t.parts.length (capF t.parts.length c)]] w0 fun e w' => e = .returned (.bool true) ∧ Below w0.heap.size w0 w' := by
    have := tmay_any t A c w0 (TIn.below t hI hb0 (Nat.le_refl _)) (hg.below hb0 hg.pos)
    rwa [hm] at this
  gi_upto_region 3 with (gi_at_call 25; refine (callsIn_wide.2 hMay).mono ?_; rintro e w9 ⟨rfl, hb9⟩)
  have L9 := L0.below hb9 L0.lt
  clear c0 c1 c2 c3 c4 hMay
  gi_upto_region 4 with fail
  obtain ⟨w1, hw1⟩ : ∃ w1, w1 = w9.alloc (.cells #[.slice none 0 0] 31) := ⟨_, rfl⟩
  have hs1 : w1.heap.size = w9.heap.size + 1 := by rw [hw1]; simp
  have hs9 := hb9.size
  have hb1 : Below w.heap.size w w1 := (hb0.trans (hb9.mono (by omega))).trans (by rw [hw1]; exact (Below.refl _ _).alloc (by omega) _)
  have L01 : Lies w1 w.heap.size 24 #[.int .i64 t.kind, .string t.name, .int .i64 t.n, .int .i64 t.place, .slice A t.parts.length (capF t.parts.length c)] := by rw [hw1]; exact L9.old _
  have L1 : Lies w1 w9.heap.size 31 #[.slice none 0 0] := by rw [hw1]; exact Lies.new _ _ _
  rw [← hw1]
  clear hw1 L0 L9
  obtain ⟨LB, hLB⟩ : ∃ LB, LB = w9.heap.size := ⟨_, rfl⟩
  rw [← hLB] at L1 hs1 ⊢
  have hLBw : w.heap.size < LB := by omega
  clear hLB hs9 hb9 hb0
  have hTw : Calls Tryz.prog 30 #[] w1 fun e w' => ∃ (B bm : Nat), e = .returned (.func (.func 49) #[] #[.pointer (some ⟨B, 0, none⟩)]) ∧ w'.cell? ⟨B, 0, none⟩ = some (.map (some bm)) ∧ MapS w' bm 0 (countN []) ∧ w1.heap.size ≤ bm ∧ w1.heap.size ≤ B ∧ B ≠ bm ∧ B < w'.heap.size ∧ Below w1.heap.size w1 w' := twins_any w1
  gi_upto_region 5 with (gi_at_call 30; refine (callsIn_wide.2 hTw).mono ?_; rintro e w2 ⟨B, bm, rfl, cB, hM, hbm, hB, hne, hBlt, hb2⟩; have L4 := Lies.new w2 57 #[.nilFunc]; have x0 : (w2.alloc (.cells #[.nilFunc] 57)).cell? ⟨w2.heap.size, 0, none⟩ = some .nilFunc := L4.cell 0; have x1 : (w2.alloc (.cells #[.nilFunc] 57)).frozen? ⟨w2.heap.size, 0, none⟩ = false := L4.frozen 0)
  clear x0 x1 L4 hTw
  obtain ⟨w4, hw4⟩ : ∃ w4, w4 = w2.alloc (.cells #[.func (.func 49) #[] #[.pointer (some ⟨B, 0, none⟩)]] 57) := ⟨_, rfl⟩
  have hs4 : w4.heap.size = w2.heap.size + 1 := by rw [hw4]; simp
  have hb4 : Below w2.heap.size w2 w4 := by rw [hw4]; exact (Below.refl _ _).alloc (Nat.le_refl _) _
  have LT4 : Lies w4 w2.heap.size 57 #[twinF B] := by rw [hw4]; exact Lies.new _ _ _
  rw [← hw4]
  clear hw4
  have hs2 := hb2.size
  have hbw4 : Below w.heap.size w w4 := (hb1.trans (hb2.mono (by omega))).trans (hb4.mono (by omega))
  have hk14 : ∀ k, k < w1.heap.size → w4.heap[k]? = w1.heap[k]? := fun k hk => (hb4.block k (by omega)).trans (hb2.block k hk)
  have L04 : Lies w4 w.heap.size 24 #[.int .i64 t.kind, .string t.name, .int .i64 t.n, .int .i64 t.place, .slice A t.parts.length (capF t.parts.length c)] := (hk14 _ (by omega)).trans L01
  have L14 : Lies w4 LB 31 #[.slice none 0 0] := (hk14 _ (by omega)).trans L1
  have hbm2 := hM.lt
  have hT0 : TolS w2.heap.size B bm LB w4.heap.size 0 [] (fun q => (q = LB ∨ (Value.slice none 0 0).ownBlock = some q) ∨ q = bm ∨ q = B ∨ q = w2.heap.size) w4 := by
    refine ⟨⟨_, rfl, none, 0, rfl, L14, ⟨by omega, Nat.le_refl _⟩, World.ownsRow_nil _ _ _ _⟩, LT4.cell 0, (World.cell?_of_block (hb4.block B (by omega))).trans cB, ⟨0, countN [], hM.heap (hb4.block bm hbm2), Nat.le_refl _, Nat.le_refl _, fun s => ⟨by simp [countN], by simp [countN], by simp [countN, inN]⟩⟩, ⟨by omega, by omega, by omega, by omega⟩, hne, by omega, by omega, by omega, by omega, by omega⟩
  have hZ04 : ∀ k, (fun q => (q = LB ∨ (Value.slice none 0 0).ownBlock = some q) ∨ q = bm ∨ q = B ∨ q = w2.heap.size) k → w.heap.size < k := by
    rintro k ((h | h) | h | h | h)
    · omega
    · cases h
    all_goals omega
  obtain ⟨Z0, hZ0⟩ : ∃ Z0, Z0 = (fun q => (q = LB ∨ (Value.slice none 0 0).ownBlock = some q) ∨ q = bm ∨ q = B ∨ q = w2.heap.size) := ⟨_, rfl⟩
  rw [← hZ0] at hT0 hZ04
  obtain ⟨c0, c1, c2, c3, c4⟩ := five_cellsS L04
  have HT := Lib.hid hT0
  have HL04 := Lib.hid L04
  have HZ04 := Lib.hid hZ04
  have HB4 := Lib.hid hbw4
  have HI := Lib.hid hI
  have HS4 := Lib.hid hs4
  clear hs4 hT0 L04 hZ04 hbw4 hZ0 LT4 L14 L01 L1 hk14 hb1 hb2 hb4 cB hM hI hg hm
  gi_wp2_with (gi_at_call 27; refine (callsIn_wide.2 (spotsF_any _ _ _ _ _ _ _ _)).mono ?_; rintro e w' ⟨rfl, rfl⟩)
  have L2 := Lies.new w4 24 #[.int .i64 t.kind, .string t.name, .int .i64 t.n, .int .i64 t.place, .slice A t.parts.length (capF t.parts.length c)]
  have hT7 : TolS w2.heap.size B bm LB w4.heap.size 0 [] Z0 (w4.alloc (.cells #[.int .i64 t.kind, .string t.name, .int .i64 t.n, .int .i64 t.place, .slice A t.parts.length (capF t.parts.length c)] 24)) := HT.out.frame (by simp) fun k hk => Below.heap_alloc _ _ _ (HT.out.below k hk)
  have hs7 : (w4.alloc (.cells #[.int .i64 t.kind, .string t.name, .int .i64 t.n, .int .i64 t.place, .slice A t.parts.length (capF t.parts.length c)] 24)).heap.size = w4.heap.size + 1 := by simp
  have hbw7 : Below w.heap.size w (w4.alloc (.cells #[.int .i64 t.kind, .string t.name, .int .i64 t.n, .int .i64 t.place, .slice A t.parts.length (capF t.parts.length c)] 24)) := HB4.out.alloc HB4.out.size _
  generalize w4.alloc (.cells #[.int .i64 t.kind, .string t.name, .int .i64 t.n, .int .i64 t.place, .slice A t.parts.length (capF t.parts.length c)] 24) = w7 at L2 hT7 hs7 hbw7 ⊢
  rename_i K2 hK2
  clear c0 c1 c2 c3 c4
  refine spots_range w4.heap.size t A c (X := (· < w.heap.size)) (Z0 := Z0) (I := FreeI w2.heap.size B bm LB w4.heap.size) (Ix := fun _ _ _ => False) rfl rfl (FreeI.stands _ _ _ _ _) nowhereS hd hs ht
    L2 (TIn.below _ (tin_ltS HI.out) hbw7 (Nat.le_refl _)) (fun q hq => ⟨by have := hbw7.size; omega, fun h => by have := HZ04.out q h; omega⟩) hT7
    (fun x Ax cx S => { tmps := #[.agg #[.int .i64 t.kind, .string t.name, .int .i64 t.n, .int .i64 t.place, .slice A t.parts.length (capF t.parts.length c)], .pointer (some ⟨w.heap.size, 0, none⟩), .slice none 0 0, .pointer (some ⟨LB, 0, none⟩), .pointer (some ⟨w2.heap.size, 0, none⟩), .pointer (some ⟨S, 0, none⟩), .agg #[.int .i64 t.kind, .string t.name, .int .i64 t.n, .int .i64 t.place, .slice A t.parts.length (capF t.parts.length c)], .bool true, .bool false, .func (.func 49) #[] #[.pointer (some ⟨B, 0, none⟩)], .agg #[.int .i64 t.kind, .string t.name, .int .i64 t.n, .int .i64 t.place, .slice A t.parts.length (capF t.parts.length c)], .func (.func 42) #[] #[.pointer (some ⟨w4.heap.size, 0, none⟩)], sv x Ax cx, undef, undef, undef, undef, undef, undef, undef, undef, undef, undef, undef, undef, undef, undef, undef, undef, undef, undef, undef, undef], defers := [] }) ?assign ?body ?done ?stop
  case assign =>
    intro l x Ax cx U K hK
    have e : sv x Ax cx = .agg #[.int .i64 x.t.kind, .string x.t.name, .int .i64 x.t.n, .int .i64 x.t.place, .slice Ax x.t.parts.length (capF x.t.parts.length cx), .bool x.free, .bool x.twin] := rfl
    rw [e] at hK ⊢
    gi_wp2
    exact hK
  case body =>
    rintro l pre x Ax cx Z S V hsz hZS LS hTx hTt hpre
    obtain ⟨hmem, hplen⟩ := mem_of_pre hpre
    have hlen := lenS t [] false
    obtain ⟨hnm, hpl⟩ := name_le hTx
    obtain ⟨d0, d1, d2, d3, d4, d5, d6⟩ := seven_cells LS
    have hfs := freesS_snoc pre x
    generalize sv x Ax cx = svx
    clear hpre hmem hTx
    by_cases hf : x.free = true
    · rw [if_pos hf] at hfs
      rw [hf] at d5
      obtain ⟨⟨Zb, rfl, hb⟩, ct, cb, ⟨N, C, hMS, hN, hlN, hC⟩, ⟨t1, t2, t3, t4⟩, n1, n2, n3, n4, n5, n6⟩ := hTt
      obtain ⟨l, hl⟩ : ∃ l, l = onceB [] (freesS pre) := ⟨_, rfl⟩
      rw [← hl] at hb hlN hC
      obtain ⟨s, hsn⟩ : ∃ s, s = x.t.name := ⟨_, rfl⟩
      rw [← hsn] at d1 hnm
      have HON : Hid (onceB [] (freesS (pre ++ [x])) = onceB l [s]) := Lib.hid (by rw [hfs, onceB_app, ← hl, hsn])
      have HPL : Hid (pre.length + 1 ≤ 1000000 ∧ (pre ++ [x]).length = pre.length + 1) := Lib.hid ⟨by omega, by simp⟩
      have HN : Hid (N ≤ pre.length ∧ l.length ≤ N) := Lib.hid ⟨hN, hlN⟩
      have hN9 : N ≤ 1000000 := by omega
      have hl9 : l.length ≤ 1000000 := by omega
      have hCs := hC s
      have HC := Lib.hid hC
      have hT := twins1_any B bm N C s V cb n1 hMS (by omega) hnm ⟨hCs.1, by omega⟩
      have hSZ : ¬ (Zb S ∨ S = bm ∨ S = B ∨ S = w2.heap.size) := hZS
      have hSlt := LS.lt
      have HSZ := Lib.hid hSZ
      have ct9 : V.cell? ⟨w2.heap.size, 0, none⟩ = some (.func (.func 49) #[] #[.pointer (some ⟨B, 0, none⟩)]) := ct
      obtain ⟨A', c', rfl, L, hS, hrow⟩ := hb
      have hSL : S ≠ LB := fun e => hSZ (.inl (.inl e))
      have hSb : S ≠ bm := fun e => hSZ (.inr (.inl e))
      have hQ : ∀ w1, V.grownBy w1 (some bm) → w1.cell? ⟨w2.heap.size, 0, none⟩ = some (twinF B) ∧ w1.cell? ⟨B, 0, none⟩ = some (.map (some bm)) ∧ w1.cell? ⟨LB, 0, none⟩ = some (.slice A' l.length c') ∧ w1.frozen? ⟨LB, 0, none⟩ = false ∧ Lies w1 LB 31 #[.slice A' l.length c'] ∧ w1.ownsRow w4.heap.size 9 1 (.slice A' l.length c') l.length (cellsS l) ∧ w4.heap.size ≤ w1.heap.size ∧ w1.cell? ⟨S, 1, none⟩ = some (.string s) := fun w1 hg => by
        have hk : ∀ k, k < V.heap.size → k ≠ bm → w1.heap[k]? = V.heap[k]? := fun k hk hne => hg.block k hk (fun e => by injection e with e; exact hne e)
        have L2 : Lies w1 LB 31 #[.slice A' l.length c'] := (hk LB L.lt n6).trans L
        exact ⟨(World.cell?_of_block (hk w2.heap.size (by omega) n2)).trans ct, (World.cell?_of_block (hk B (by omega) n1)).trans cb, L2.cell 0, L2.frozen 0, L2, ownsRow_heap2 hrow fun q hq => hk q (hrow.lt q hq).2 (fun e => by have := (hrow.lt q hq).1; omega), by have := hg.size; omega,
          (World.cell?_of_block (hk S hSlt hSb)).trans d1⟩
      by_cases ho : inN l s = true
      · have hc0 : C s ≠ 0 := fun e => by have := hCs.2.2.1 e; rw [ho] at this; cases this
        have hT2 : Calls Tryz.prog 49 #[.string s, .pointer (some ⟨B, 0, none⟩)] V fun e w' => e = .returned (.bool true) ∧ MapS w' bm (N + 1) (fun v => if v = s then C s + 1 else C v) ∧ V.grownBy w' (some bm) := hT.mono fun e w' ⟨h1, h2, h3⟩ => ⟨by rw [h1, decide_eq_true (by omega)], h2, h3⟩
        have HQ := Lib.hid hQ
        have HX9 : Hid (onceB l [s] = l) := Lib.hid (by rw [onceB, if_pos ho, onceB])
        have HCS := Lib.hid hCs
        have HO := Lib.hid ho
        clear hQ hT hMS cb ct L hC hrow LS hSZ hZS hfs hl hN hlN hCs ho hsn hplen hlen hc0
        gi_wp2_with (gi_at_call 49; refine (callsIn_wide.2 hT2).mono ?_; rintro e w1 ⟨rfl, hM1, hg1⟩)
        obtain ⟨x0, x1, y0, y1, y2, hrow1, hbase1, _⟩ := HQ.out w1 hg1
        refine ⟨_, ⟨hg1.os, hg1.tape, hg1.output, hg1.size, fun k hk hz _ => hg1.block k hk (fun e => hz (.inr (.inl (by injection e with e)))), fun k hz => .inl hz⟩, ?_⟩
        show TolS _ _ _ _ _ _ _ _ _
        rw [HON.out, HX9.out, HPL.out.2]
        refine ⟨⟨_, rfl, A', c', rfl, y2, ⟨t4, hbase1⟩, hrow1⟩, x0, x1, ?_, ⟨t1, t2, t3, t4⟩, n1, n2, n3, n4, n5, n6⟩
        refine ⟨N + 1, _, hM1, by have := HN.out; omega, by have := HN.out; omega, fun v => ?_⟩
        have hv := HC.out v
        have hCs := HCS.out
        by_cases e : v = s
        · subst e
          simp only [if_pos]
          refine ⟨by omega, by omega, ⟨fun h => by omega, fun h => by rw [HO.out] at h; cases h⟩⟩
        · simp only [if_neg e]
          exact ⟨hv.1, by omega, hv.2.2⟩
      · have ho' : inN l s = false := by simpa using ho
        have hc0 : C s = 0 := hCs.2.2.2 ho'
        have hT2 : Calls Tryz.prog 49 #[.string s, .pointer (some ⟨B, 0, none⟩)] V fun e w' => e = .returned (.bool false) ∧ MapS w' bm (N + 1) (fun v => if v = s then C s + 1 else C v) ∧ V.grownBy w' (some bm) := hT.mono fun e w' ⟨h1, h2, h3⟩ => ⟨by rw [h1, hc0]; rfl, h2, h3⟩
        have HQ := Lib.hid hQ
        have HX9 : Hid (onceB l [s] = l ++ [s]) := Lib.hid (by rw [onceB, if_neg ho, onceB])
        have HCS := Lib.hid hCs
        have HO := Lib.hid ho'
        have HC0 := Lib.hid hc0
        clear hQ hT hMS cb ct L hC hrow LS hSZ hZS hfs hl hN hlN hCs ho ho' hc0 hsn hplen hlen
        gi_upto_region 8 with (gi_at_call 49; refine (callsIn_wide.2 hT2).mono ?_; rintro e w1 ⟨rfl, hM1, hg1⟩)
        obtain ⟨x0, x1, y0, y1, y2, hrow1, hbase1, e1⟩ := HQ.out w1 hg1
        obtain ⟨i0, hi0, hz0, hz1, hz2⟩ := info_partsS infoS
        obtain ⟨m, hm⟩ : ∃ m, m = l.length := ⟨_, rfl⟩
        have HM := Lib.hid hm
        rw [← hm] at y0 y2 hrow1 hl9
        have hVsz := hg1.size
        have hSlt1 : S < w1.heap.size := by omega
        have hmu : ∀ W : World, (W.cell? ⟨LB, 0, none⟩ = some (.slice A' m c') ∧ W.cell? ⟨S, 1, none⟩ = some (.string s)) → True := fun _ _ => trivial
        have HSt : Hid (∀ X9, Below w1.heap.size w1 X9 → X9.cell? ⟨LB, 0, none⟩ = some (.slice A' m c') ∧ X9.cell? ⟨S, 1, none⟩ = some (.string s)) := Lib.hid fun X9 hv => ⟨(World.cell?_of_block (hv.block LB y2.lt)).trans y0, (World.cell?_of_block (hv.block S hSlt1)).trans e1⟩
        clear hm hmu d0 d1 d2 d3 d4 d5 d6
        refine region_K_calm (S := fun X9 => X9.cell? ⟨LB, 0, none⟩ = some (.slice A' m c') ∧ X9.cell? ⟨S, 1, none⟩ = some (.string s)) 7 rfl (by kernel_rfl) (by exact ⟨y0, e1⟩) (fun hSs => ?_)
        change wpAnyK _ _ _ _ _ _ 8 (Array.replicate 8 false) _ _
        refine wpAnyK_take (i := 0) (oi := ⟨some 23, _, _, _, _, _⟩) (v := .slice A' m c') rfl (by kernel_rfl) (by kernel_rfl) (by kernel_rfl) (by kernel_rfl) (fun _ _ _ h => h) (.inl ⟨by kernel_rfl, fun W hW => by obtain ⟨u0, u1⟩ := hW; go_simp⟩) hSs ?_
        try simp only [Act.put, List.setIfInBounds_toArray, List.set_cons_zero, List.set_cons_succ]
        refine wpAnyK_take (i := 1) (oi := ⟨some 24, _, _, _, _, _⟩) (v := .pointer (some ⟨S, 0, none⟩)) rfl (by kernel_rfl) (by kernel_rfl) (by kernel_rfl) (by kernel_rfl) (fun _ _ _ h => h) (.inl ⟨by kernel_rfl, fun W hW => by obtain ⟨u0, u1⟩ := hW; go_simp⟩) hSs ?_
        try simp only [Act.put, List.setIfInBounds_toArray, List.set_cons_zero, List.set_cons_succ]
        refine wpAnyK_take (i := 2) (oi := ⟨some 25, _, _, _, _, _⟩) (v := .pointer (some ⟨S, 1, none⟩)) rfl (by kernel_rfl) (by kernel_rfl) (by kernel_rfl) (by kernel_rfl) (fun _ _ _ h => h) (.inl ⟨by kernel_rfl, fun W hW => by obtain ⟨u0, u1⟩ := hW; go_simp⟩) hSs ?_
        try simp only [Act.put, List.setIfInBounds_toArray, List.set_cons_zero, List.set_cons_succ]
        refine wpAnyK_take (i := 3) (oi := ⟨some 26, _, _, _, _, _⟩) (v := .string s) rfl (by kernel_rfl) (by kernel_rfl) (by kernel_rfl) (by kernel_rfl) (fun _ _ _ h => h) (.inl ⟨by kernel_rfl, fun W hW => by obtain ⟨u0, u1⟩ := hW; go_simp⟩) hSs ?_
        try simp only [Act.put, List.setIfInBounds_toArray, List.set_cons_zero, List.set_cons_succ]
        refine wpAnyK_one (i := 4) rfl rfl (by kernel_rfl) (fun K hK => ?_)
        go_simp
        refine (clone_any s w1.drew (by omega)).mono ?_
        rintro e w5 ⟨rfl, hb5⟩
        have hb5' : Below w1.heap.size w1 w5 := ((Below.refl _ w1).drew).trans hb5
        have hrow5 := own_below hrow1 hb5' (Nat.le_refl _)
        have L5 := y2.below hb5' y2.lt
        refine hK.out _ _ (fun _ => HSt.out _ hb5') (fun hS9 => ?_)
        have hS5 := hS9 (by decide)
        clear hK K hS9
        try simp only [Act.put, List.setIfInBounds_toArray, List.set_cons_zero, List.set_cons_succ]
        refine wpAnyK_one (i := 5) rfl rfl (by kernel_rfl) (fun K hK => ?_)
        go_simp
        have hs5 := hb5'.size
        have hb6 : Below w1.heap.size w1 (w5.alloc (.cells #[.string s] 9)) := Below.alloc hb5' hb5'.size _
        have L6 := L5.old (.cells #[.string s] 9)
        have hl6 : Lies (w5.alloc (.cells #[.string s] 9)) w5.heap.size 9 #[.string s] := Lies.new _ _ _
        have hrow6 := hrow5.alloc (.cells #[.string s] 9)
        refine hK.out _ _ (fun _ => HSt.out _ hb6) (fun hS9 => ?_)
        have hS6 := hS9 (by decide)
        clear hK K hS9
        try simp only [Act.put, List.setIfInBounds_toArray, List.set_cons_zero, List.set_cons_succ]
        refine wpAnyK_one (i := 6) rfl rfl (by kernel_rfl) (fun K hK => ?_)
        refine wp_append_own_at _ _ 31 rfl w4.heap.size 9 i0 _ 1 16 Tryz.underlying31 hi0 hz0 hz1 hz2 rfl (by omega) (.slice A' m c') m (cellsS l) rfl hrow6
          ⟨w5.heap.size, 0, none⟩ 1 1 [.string s] rfl rfl (World.news_of_block (cs := #[.string s]) (t := 9) (fr := (0, 0)) hl6) (by simp [Value.oneCell'])
          (by simp only [maxLen]; omega) (by omega) (by rw [World.size_alloc]; omega) ?_
        intro v' w8 hown8 hg8 hat
        obtain ⟨g', cap', rfl⟩ := ownsRow_some hown8
        have hneS : ∀ q, (Value.slice A' m c').ownBlock = some q → q ≠ LB := fun q hq => by have := (hrow1.lt q hq).1; omega
        have hneZ : ∀ q, (Value.slice A' m c').ownBlock = some q → q ≠ S := fun q hq e => HSZ.out (.inl (.inr (by rw [← HM.out, ← e]; exact hq)))
        have L8 : Lies w8 LB 31 #[.slice A' m c'] := (hg8.block LB L6.lt (fun e => hneS _ e.symm rfl)).trans L6
        have z1 := L8.frozen 0
        have zz : w8.cell? ⟨LB, 0, none⟩ = some (.slice A' m c') ∧ w8.cell? ⟨S, 1, none⟩ = some (.string s) := ⟨L8.cell 0, (World.cell?_of_block (hg8.block S (by rw [World.size_alloc]; omega) (fun e => hneZ _ e.symm rfl))).trans hS6.2⟩
        have z0 := zz.1
        refine hK.out _ _ (fun _ => zz) (fun hS9 => ?_)
        clear hK K hS9
        try simp only [Act.put, List.setIfInBounds_toArray]
        refine wpAnyK_one (i := 7) rfl rfl (by kernel_rfl) (fun K hK => ?_)
        go_simp
        refine hK.out _ _ (fun h => absurd rfl h) (fun _ => ?_)
        clear hK K
        try simp only [Act.put, List.setIfInBounds_toArray, List.set_cons_zero, List.set_cons_succ]
        refine wpAnyK_done (by kernel_rfl) ?_ _
        refine calm_in ?_
        simp only [Exit.inBlock]
        have hlen : (l ++ [s]).length = m + 1 := by rw [List.length_append, HM.out]; rfl
        have hg'1 := (hown8.lt g' rfl).1
        have hg86 := hg8.size
        rw [World.size_alloc] at hg86
        have hsz9 : (w8.setCell ⟨LB, 0, none⟩ (.slice (some ⟨g', 0, none⟩) (m + 1) cap')).heap.size = w8.heap.size := by simp [World.setCell]
        have hk4 : ∀ k, k < w1.heap.size → k ≠ LB → (Value.slice A' m c').ownBlock ≠ some k → (w8.setCell ⟨LB, 0, none⟩ (.slice (some ⟨g', 0, none⟩) (m + 1) cap')).heap[k]? = w1.heap[k]? := fun k hk h1 h2 =>
          (Below.heap_setCell _ _ _ _ h1).trans ((hg8.block k (by rw [World.size_alloc]; omega) (fun e => h2 e.symm)).trans (hb6.block k hk))
        have hnot : ∀ k, k < w4.heap.size → (Value.slice A' m c').ownBlock ≠ some k := fun k hk e => by have := (hrow1.lt k e).1; omega
        refine ⟨fun q => (q = LB ∨ (Value.slice (some ⟨g', 0, none⟩) (m + 1) cap').ownBlock = some q) ∨ q = bm ∨ q = B ∨ q = w2.heap.size, ?_, ?_⟩
        · refine ⟨hg8.os.trans (hb6.os.trans hg1.os), hg8.tape.trans (hb6.tape.trans hg1.tape), hg8.output.trans (hb6.output.trans hg1.output), by rw [hsz9]; omega, fun k hk hz _ => ?_, fun k hz => ?_⟩
          · exact (hk4 k (by omega) (fun e => hz (.inl (.inl e))) (fun e => hz (.inl (.inr (by rw [← HM.out]; exact e))))).trans (hg1.block k hk (fun e => hz (.inr (.inl (by injection e with e)))))
          · rcases hz with (hz | hz) | hz | hz | hz
            · exact .inl (.inl (.inl hz))
            · rcases hat with hat | hat
              · exact .inl (.inl (.inr (by rw [← HM.out]; exact hat ▸ hz)))
              · rw [hat] at hz
                injection hz with hz
                rw [World.size_alloc] at hz
                exact .inr (by omega)
            · exact .inl (.inr (.inl hz))
            · exact .inl (.inr (.inr (.inl hz)))
            · exact .inl (.inr (.inr (.inr hz)))
        · show TolS _ _ _ _ _ _ _ _ _
          rw [HON.out, HX9.out, HPL.out.2]
          refine ⟨⟨_, rfl, some ⟨g', 0, none⟩, cap', by rw [hlen], ?_, ⟨t4, by rw [hsz9]; omega⟩, ?_⟩, ?_, ?_, ?_, ⟨t1, t2, t3, t4⟩, n1, n2, n3, n4, n5, n6⟩
          · rw [hlen]
            have := L8.put 0 (.slice (some ⟨g', 0, none⟩) (m + 1) cap')
            simpa using this
          · rw [hlen, cellsS_snoc9]
            exact ownsRow_heap2 hown8 fun q hq => Below.heap_setCell _ _ _ _ (by show q ≠ LB; injection hq with hq; simp at hq; omega)
          · exact (World.cell?_of_block (hk4 w2.heap.size (by omega) (fun e => n4 e.symm) (hnot _ t1))).trans x0
          · exact (World.cell?_of_block (hk4 B (by omega) (fun e => n5 e.symm) (hnot B t2))).trans x1
          · refine ⟨N + 1, _, hM1.heap (hk4 bm hM1.lt (fun e => n6 e.symm) (hnot bm t3)), by have := HN.out; omega, by rw [hlen]; have h1 := HN.out; have h2 := HM.out; omega, fun v => ?_⟩
            have hv := HC.out v
            by_cases e : v = s
            · subst e
              simp only [if_pos]
              refine ⟨by omega, by omega, ⟨fun h => by omega, fun h => ?_⟩⟩
              rw [inN_snoc] at h
              simp at h
            · simp only [if_neg e]
              refine ⟨hv.1, by omega, hv.2.2.trans ?_⟩
              rw [inN_snoc, decide_eq_false (fun h => e h.symm), Bool.or_false]
    · have hf' : x.free = false := by simpa using hf
      rw [hf'] at d5
      rw [if_neg hf, List.append_nil] at hfs
      have HT9 := Lib.hid hTt
      have HFS := Lib.hid hfs
      clear hTt hfs LS hplen
      gi_wp2_with fail
      refine ⟨Z, Gz.refl _ _ _, ?_⟩
      have h9 := HT9.out
      show TolS _ _ _ _ _ _ _ _ _
      rw [HFS.out, List.length_append]
      exact TolS.mono h9 (by simp)
  case done =>
    rintro D Z V hD hDV hZD hG hTt hdef
    obtain ⟨⟨Zb, rfl, hbx⟩, ct, cb, hm, ⟨lt1, lt2, lt3, lt4⟩, ne1, ne2, ne3, ne4, ne5, ne6⟩ := hTt
    obtain ⟨A', c', rfl, LV, hS, hrow⟩ := hbx
    rw [frees_spots] at LV hrow
    have hZ9 : ¬ (Value.slice A' (onceB [] (looseT [] t)).length c').ownBlock = some D := fun hq => hZD (.inl (.inr (by rw [frees_spots]; exact hq)))
    have hol := onceB_len [] (looseT [] t)
    have hfl : (looseT [] t).length ≤ sizeT t := by
      rw [← frees_spots t [] false]
      refine Nat.le_trans ?_ (lenS t [] false)
      unfold freesS
      rw [List.length_map]
      exact List.length_filter_le _ _
    obtain ⟨m, hm9⟩ : ∃ m, m = (onceB [] (looseT [] t)).length := ⟨_, rfl⟩
    rw [← hm9] at LV hrow hol hZ9
    have hFT : (freeT t).length = m := by rw [freeT, sortB_len, hm9]
    have x0 := LV.cell 0
    simp at x0
    have hbV : Below w.heap.size w V := gz_belowS hbw7 (fun q hq => Nat.le_of_lt (HZ04.out q hq)) hG
    have hsort := sort_names hrow (by simp at hol; omega)
    have HX : Hid (∀ V', V.grownBy V' (Value.slice A' m c').ownBlock → V'.cell? ⟨LB, 0, none⟩ = some (.slice A' m c') ∧ V'.heap[D]? = some (.deferred (some [])) ∧ Below w.heap.size w V') := Lib.hid fun V' hb => ⟨(World.cell?_of_block (hb.block LB LV.lt (fun e => by have := (hrow.lt LB e.symm).1; omega))).trans x0, (hb.block D hDV (fun e => hZ9 e.symm)).trans hdef,
      hbV.grown hb hbV.size (fun q hq => by have := (hrow.lt q hq).1; have := HB4.out.size; omega)⟩
    simp only [Exit.inBlock, Exit.then]
    refine hK2 _ _ ?_
    clear hm9
    gi_wp2_with (gi_at_call 32; refine (callsIn_wide.2 hsort).mono ?_; rintro e v1 ⟨rfl, hrow1, hbv⟩; obtain ⟨xx0, hdef1, hbw9⟩ := HX.out _ hbv)
    have hrD : ∀ q, (Value.slice A' m c').ownBlock = some q → q ≠ D := fun q hq e => hZ9 (e ▸ hq)
    have hwD := hbw7.size
    refine ends1 hdef1 (results_tmp rfl _ _ _) ⟨A', c', by rw [hFT]; rfl, ?_, below_putS hbw9 (by omega)⟩
    rw [hFT]
    unfold freeT
    exact own_base (ownsRow_heap2 hrow1 fun q hq => World.putObj_heap_other (hrD q hq)) HB4.out.size
  case stop =>
    rintro D Z V q _ _ _ _ _ h _
    exact h.elim
end Lx
end Go.Proofs.YtobdoahdjbmflaaGreatDoor
namespace Go.Proofs.YtobdoahdjbmflaaGreatDoor
open Go.RowKit
namespace Lx
set_option maxRecDepth 100000
mutual
/-- The parts of a term lie from A on, in blocks of which X holds. -/
def EIn (w : World) (X : Nat → Prop) : Te → Option Addr → Prop
  | .node _ n s l, A => (s.size ≤ 140737488351232 ∧ -9223372036854775808 ≤ n ∧ n ≤ 9223372036854775807) ∧ l.length ≤ 140737488351232 ∧ ELIn w X l A 0
def ELIn (w : World) (X : Nat → Prop) : List Te → Option Addr → Nat → Prop
  | [], _, _ => True
  | t :: r, A, i => (∃ g o A' c, (A = some ⟨g, o, none⟩ ∧ X g) ∧ w.cell? ⟨g, o + i * 4, none⟩ = some (.int .i64 t.kind) ∧ w.cell? ⟨g, o + i * 4 + 1, none⟩ = some (.int .i64 t.n) ∧
      w.cell? ⟨g, o + i * 4 + 2, none⟩ = some (.string t.name) ∧
      w.cell? ⟨g, o + i * 4 + 3, none⟩ = some (.slice A' t.parts.length (capF t.parts.length c)) ∧ EIn w X t A') ∧ ELIn w X r A (i + 1)
end
/-- A term as a value. -/
def ev (t : Te) (A : Option Addr) (c : Nat) : Value := .agg #[.int .i64 t.kind, .int .i64 t.n, .string t.name, .slice A t.parts.length (capF t.parts.length c)]

mutual
theorem EIn.keep : ∀ (t : Te) {w w' : World} {X Y : Nat → Prop} {A : Option Addr}, EIn w X t A → (∀ g j, X g → g < w.heap.size → w'.cell? ⟨g, j, none⟩ = w.cell? ⟨g, j, none⟩ ∧ Y g) → EIn w' Y t A
  | .node k n s l, w, w', X, Y, A, h, hk => by
    rw [EIn] at h ⊢
    exact ⟨h.1, h.2.1, ELIn.keep l h.2.2 hk⟩
theorem ELIn.keep : ∀ (l : List Te) {w w' : World} {X Y : Nat → Prop} {A : Option Addr} {i : Nat}, ELIn w X l A i → (∀ g j, X g → g < w.heap.size → w'.cell? ⟨g, j, none⟩ = w.cell? ⟨g, j, none⟩ ∧ Y g) → ELIn w' Y l A i
  | [], w, w', X, Y, A, i, _, _ => by rw [ELIn]; trivial
  | t :: r, w, w', X, Y, A, i, h, hk => by
    rw [ELIn] at h ⊢
    obtain ⟨⟨g, o, A', c, ⟨e, hX⟩, h0, h1, h2, h3, ht⟩, hr⟩ := h
    have hlt := cell_lt h0
    have hc : ∀ j, w'.cell? ⟨g, j, none⟩ = w.cell? ⟨g, j, none⟩ := fun j => (hk g j hX hlt).1
    exact ⟨⟨g, o, A', c, ⟨e, (hk g 0 hX hlt).2⟩, by rw [hc]; exact h0, by rw [hc]; exact h1, by rw [hc]; exact h2, by rw [hc]; exact h3, EIn.keep t ht hk⟩, ELIn.keep r hr hk⟩
end
theorem EIn.below (t : Te) {w w' : World} {X : Nat → Prop} {A : Option Addr} {B : Nat} (h : EIn w X t A) (hb : Below B w w') (hB : w.heap.size ≤ B) : EIn w' X t A :=
  EIn.keep t h fun g j hX hlt => ⟨hb.cell (p := ⟨g, j, none⟩) (by show g < B; omega), hX⟩
theorem EIn.wide (t : Te) {w : World} {X Y : Nat → Prop} {A : Option Addr} (h : EIn w X t A) (hXY : ∀ g, X g → g < w.heap.size → Y g) : EIn w Y t A :=
  EIn.keep t h fun g _ hX hlt => ⟨rfl, hXY g hX hlt⟩
theorem EIn.any (t : Te) {w : World} {X : Nat → Prop} {A : Option Addr} (h : EIn w X t A) : EIn w Any t A := EIn.wide t h fun _ _ _ => trivial
theorem EIn.setCell (t : Te) {w : World} {X : Nat → Prop} {A : Option Addr} (h : EIn w X t A) (p : Addr) (u : Value) (hp : ¬ X p.block) : EIn (w.setCell p u) X t A :=
  EIn.keep t h fun g j hX _ => ⟨World.cell?_setCell_other w p ⟨g, j, none⟩ u (fun e => by subst e; exact hp hX), hX⟩
theorem EIn.grown (t : Te) {w w' : World} {X : Nat → Prop} {A : Option Addr} {row : Option Nat} (h : EIn w X t A) (hg : w.grownBy w' row) (hp : ∀ g, row = some g → ¬ X g) : EIn w' X t A :=
  EIn.keep t h fun g _ hX hlt => ⟨World.cell?_of_block (hg.block g hlt (fun e => hp g e.symm hX)), hX⟩

theorem ELIn.at_ : ∀ (l : List Te) {w : World} {X : Nat → Prop} {A : Option Addr} {j : Nat}, ELIn w X l A j → ∀ (i : Nat) (hi : i < l.length),
    ∃ g o A' c, (A = some ⟨g, o, none⟩ ∧ X g) ∧ w.cell? ⟨g, o + (j + i) * 4, none⟩ = some (.int .i64 (l[i]'hi).kind) ∧ w.cell? ⟨g, o + (j + i) * 4 + 1, none⟩ = some (.int .i64 (l[i]'hi).n) ∧
      w.cell? ⟨g, o + (j + i) * 4 + 2, none⟩ = some (.string (l[i]'hi).name) ∧
      w.cell? ⟨g, o + (j + i) * 4 + 3, none⟩ = some (.slice A' (l[i]'hi).parts.length (capF (l[i]'hi).parts.length c)) ∧ EIn w X (l[i]'hi) A'
  | [], w, X, A, j, _, i, hi => by simp at hi
  | t :: r, w, X, A, j, h, 0, hi => by
    rw [ELIn] at h
    simpa using h.1
  | t :: r, w, X, A, j, h, i + 1, hi => by
    rw [ELIn] at h
    have := ELIn.at_ r h.2 i (by simpa using hi)
    rw [show j + 1 + i = j + (i + 1) from by omega] at this
    simpa using this
theorem ELIn.mk : ∀ (l : List Te) {w : World} {X : Nat → Prop} {A : Option Addr} (j : Nat), (∀ (i : Nat) (hi : i < l.length),
    ∃ g o A' c, (A = some ⟨g, o, none⟩ ∧ X g) ∧ w.cell? ⟨g, o + (j + i) * 4, none⟩ = some (.int .i64 (l[i]'hi).kind) ∧ w.cell? ⟨g, o + (j + i) * 4 + 1, none⟩ = some (.int .i64 (l[i]'hi).n) ∧
      w.cell? ⟨g, o + (j + i) * 4 + 2, none⟩ = some (.string (l[i]'hi).name) ∧
      w.cell? ⟨g, o + (j + i) * 4 + 3, none⟩ = some (.slice A' (l[i]'hi).parts.length (capF (l[i]'hi).parts.length c)) ∧ EIn w X (l[i]'hi) A') → ELIn w X l A j
  | [], w, X, A, j, _ => by rw [ELIn]; trivial
  | t :: r, w, X, A, j, h => by
    rw [ELIn]
    refine ⟨(by have := h 0 (by simp); rw [Nat.add_zero] at this; exact this), ELIn.mk r (j + 1) fun i hi => ?_⟩
    have := h (i + 1) (by simpa using hi)
    rw [show j + 1 + i = j + (i + 1) from by omega]
    simpa using this
/-- The four cells of part i, and its own parts. -/
theorem EIn.part {t : Te} {w : World} {X : Nat → Prop} {A : Option Addr} (h : EIn w X t A) (i : Nat) (hi : i < t.parts.length) :
    ∃ g o A' c, (A = some ⟨g, o, none⟩ ∧ X g) ∧ w.cell? ⟨g, o + i * 4, none⟩ = some (.int .i64 (t.parts[i]'hi).kind) ∧ w.cell? ⟨g, o + i * 4 + 1, none⟩ = some (.int .i64 (t.parts[i]'hi).n) ∧
      w.cell? ⟨g, o + i * 4 + 2, none⟩ = some (.string (t.parts[i]'hi).name) ∧
      w.cell? ⟨g, o + i * 4 + 3, none⟩ = some (.slice A' (t.parts[i]'hi).parts.length (capF (t.parts[i]'hi).parts.length c)) ∧ EIn w X (t.parts[i]'hi) A' := by
  obtain ⟨k, n, s, l⟩ := t
  rw [EIn] at h
  have := ELIn.at_ l h.2.2 i hi
  rw [Nat.zero_add] at this
  exact this
end Lx
end Go.Proofs.YtobdoahdjbmflaaGreatDoor
namespace Go.Proofs.YtobdoahdjbmflaaGreatDoor
open Go.RowKit
namespace Lx
set_option maxRecDepth 100000
theorem ein_mk {w : World} {X : Nat → Prop} {k n : Int} {s : ByteArray} {l : List Te} {A : Option Addr} (hs : s.size ≤ 140737488351232) (h0 : -9223372036854775808 ≤ n) (h1 : n ≤ 9223372036854775807) (hl : l.length ≤ 140737488351232) (h : ELIn w X l A 0) : EIn w X (.node k n s l) A := by
  rw [EIn]; exact ⟨⟨hs, h0, h1⟩, hl, h⟩
theorem lies_next (w : World) (t : TypeId) (cs : Array Value) (g : Nat) (hg : g = w.heap.size) : Lies (w.alloc (.cells cs t)) g t cs := by subst hg; exact Lies.new w t cs
theorem ein_lies1 {w : World} {X : Nat → Prop} {t : Te} {A : Option Addr} {c g : Nat} {ty : TypeId} (L : Lies w g ty #[.int .i64 t.kind, .int .i64 t.n, .string t.name, .slice A t.parts.length (capF t.parts.length c)]) (hg : X g) (h : EIn w X t A) : ELIn w X [t] (some ⟨g, 0, none⟩) 0 := by
  rw [ELIn]
  refine ⟨⟨g, 0, A, c, ⟨rfl, hg⟩, L.cell 0, L.cell 1, L.cell 2, L.cell 3, h⟩, ?_⟩
  rw [ELIn]; trivial
theorem ein_lies2 {w : World} {X : Nat → Prop} {t u : Te} {A B : Option Addr} {c d g : Nat} {ty : TypeId} (L : Lies w g ty #[.int .i64 t.kind, .int .i64 t.n, .string t.name, .slice A t.parts.length (capF t.parts.length c), .int .i64 u.kind, .int .i64 u.n, .string u.name, .slice B u.parts.length (capF u.parts.length d)]) (hg : X g) (h : EIn w X t A) (hu : EIn w X u B) : ELIn w X [t, u] (some ⟨g, 0, none⟩) 0 := by
  rw [ELIn]
  refine ⟨⟨g, 0, A, c, ⟨rfl, hg⟩, L.cell 0, L.cell 1, L.cell 2, L.cell 3, h⟩, ?_⟩
  rw [ELIn]
  refine ⟨⟨g, 0, B, d, ⟨rfl, hg⟩, L.cell 4, L.cell 5, L.cell 6, L.cell 7, hu⟩, ?_⟩
  rw [ELIn]; trivial
end Lx
end Go.Proofs.YtobdoahdjbmflaaGreatDoor
namespace Go.Proofs.YtobdoahdjbmflaaGreatDoor
open Go.RowKit
namespace Lx
set_option maxRecDepth 100000
/-- The four cells of a tree. -/
def cellsE (t : Te) (A : Option Addr) (c : Nat) : List Value := [.int .i64 t.kind, .int .i64 t.n, .string t.name, .slice A t.parts.length (capF t.parts.length c)]
theorem cellsE_length (t : Te) (A : Option Addr) (c : Nat) : (cellsE t A c).length = 4 := rfl
/-- The cells xs read as the trees of l. -/
def RowTe (w : World) (X : Nat → Prop) (l : List Te) (xs : List Value) : Prop :=
  xs.length = l.length * 4 ∧ ∀ (j : Nat) (hj : j < l.length), ∃ A c, (∀ q, q < 4 → xs[j * 4 + q]? = (cellsE (l[j]'hj) A c)[q]?) ∧ EIn w X (l[j]'hj) A
theorem RowTe.nil (w : World) (X : Nat → Prop) : RowTe w X [] [] := ⟨rfl, fun j hj => by simp at hj⟩
theorem RowTe.keep {w w' : World} {X Y : Nat → Prop} {l : List Te} {xs : List Value} (h : RowTe w X l xs) (hk : ∀ g j, X g → g < w.heap.size → w'.cell? ⟨g, j, none⟩ = w.cell? ⟨g, j, none⟩ ∧ Y g) : RowTe w' Y l xs :=
  ⟨h.1, fun j hj => by
    obtain ⟨A, c, hc, ht⟩ := h.2 j hj
    exact ⟨A, c, hc, EIn.keep _ ht hk⟩⟩
theorem RowTe.below {w w' : World} {X : Nat → Prop} {l : List Te} {xs : List Value} {B : Nat} (h : RowTe w X l xs) (hb : Below B w w') (hB : w.heap.size ≤ B) : RowTe w' X l xs :=
  h.keep fun g j hX hlt => ⟨hb.cell (p := ⟨g, j, none⟩) (by show g < B; omega), hX⟩
theorem RowTe.wide {w : World} {X Y : Nat → Prop} {l : List Te} {xs : List Value} (h : RowTe w X l xs) (hXY : ∀ g, X g → g < w.heap.size → Y g) : RowTe w Y l xs :=
  h.keep fun g _ hX hlt => ⟨rfl, hXY g hX hlt⟩
theorem RowTe.setCell {w : World} {X : Nat → Prop} {l : List Te} {xs : List Value} (h : RowTe w X l xs) (p : Addr) (u : Value) (hp : ¬ X p.block) : RowTe (w.setCell p u) X l xs :=
  h.keep fun g j hX _ => ⟨World.cell?_setCell_other w p ⟨g, j, none⟩ u (fun e => by subst e; exact hp hX), hX⟩
theorem RowTe.grown {w w' : World} {X : Nat → Prop} {l : List Te} {xs : List Value} {row : Option Nat} (h : RowTe w X l xs) (hg : w.grownBy w' row) (hp : ∀ g, row = some g → ¬ X g) : RowTe w' X l xs :=
  h.keep fun g _ hX hlt => ⟨World.cell?_of_block (hg.block g hlt (fun e => hp g e.symm hX)), hX⟩
theorem RowTe.snoc {w : World} {X : Nat → Prop} {l : List Te} {xs : List Value} (h : RowTe w X l xs) {t : Te} {A : Option Addr} {c : Nat} (ht : EIn w X t A) : RowTe w X (l ++ [t]) (xs ++ cellsE t A c) := by
  refine ⟨by simp [h.1, cellsE_length]; omega, fun j hj => ?_⟩
  rcases Nat.lt_or_ge j l.length with hlt | hge
  · obtain ⟨A', c', hc, ht'⟩ := h.2 j hlt
    rw [List.getElem_append_left hlt]
    refine ⟨A', c', fun q hq => ?_, ht'⟩
    rw [List.getElem?_append_left (by rw [h.1]; omega)]
    exact hc q hq
  · have hj' : j = l.length := by simp at hj; omega
    subst hj'
    rw [List.getElem_append_right (Nat.le_refl _)]
    simp only [Nat.sub_self, List.getElem_singleton]
    refine ⟨A, c, fun q hq => ?_, ht⟩
    rw [List.getElem?_append_right (by rw [h.1]; omega), h.1]
    congr 1
    omega
/-- Trees in a row of the call's own are parts. -/
theorem RowTe.parts {w : World} {X Y : Nat → Prop} {l : List Te} {xs : List Value} {g o : Nat} (h : RowTe w X l xs) (hg : Y g) (hXY : ∀ b, X b → b < w.heap.size → Y b)
    (hc : ∀ j u, xs[j]? = some u → w.cell? ⟨g, o + j, none⟩ = some u) : ELIn w Y l (some ⟨g, o, none⟩) 0 := by
  refine ELIn.mk l 0 fun i hi => ?_
  obtain ⟨A, c, hx, ht⟩ := h.2 i hi
  rw [Nat.zero_add]
  refine ⟨g, o, A, c, ⟨rfl, hg⟩, hc (i * 4) _ ((hx 0 (by omega)).trans rfl), ?_, ?_, ?_, EIn.wide _ ht hXY⟩
  · have := hc (i * 4 + 1) _ ((hx 1 (by omega)).trans rfl); simpa [Nat.add_assoc] using this
  · have := hc (i * 4 + 2) _ ((hx 2 (by omega)).trans rfl); simpa [Nat.add_assoc] using this
  · have := hc (i * 4 + 3) _ ((hx 3 (by omega)).trans rfl); simpa [Nat.add_assoc] using this
end Lx
end Go.Proofs.YtobdoahdjbmflaaGreatDoor
namespace Go.Proofs.YtobdoahdjbmflaaGreatDoor
namespace Lx
set_option maxRecDepth 100000
mutual
/-- A term, each of whose variables is what F tells of its number, its name and how many binders there are. -/
def chE (F : Int → ByteArray → Int → Te) : Te → Int → Te
  | .node k n s l, b => if k = 1 then F n s b else .node k n s (chEL F l (b + moreE k n))
def chEL (F : Int → ByteArray → Int → Te) : List Te → Int → List Te
  | [], _ => []
  | t :: r, b => chE F t b :: chEL F r b
end
def upF (u : Int) (n : Int) (s : ByteArray) (f : Int) : Te := .node 1 (if f ≤ n then n + u else n) s []
def upE (t : Te) (u f : Int) : Te := chE (upF u) t f
def putF (k : Int) (x : Te) (n : Int) (s : ByteArray) (b : Int) : Te := if n = k + b then upE x b 0 else .node 1 (if k + b < n then n - 1 else n) s []
def putE (t : Te) (k : Int) (x : Te) : Te := chE (putF k x) t 0
def lastE (l : List Te) (i : Nat) : Te := l.getD (l.length - 1 - i) (.node 0 0 ⟨#[]⟩ [])
def instF (l : List Te) (n : Int) (s : ByteArray) (b : Int) : Te := if b ≤ n ∧ n < b + l.length then upE (lastE l (n - b).toNat) b 0 else .node 1 (if b < n then n - l.length else n) s []
def instE (t : Te) (l : List Te) : Te := chE (instF l) t 0
mutual
def usesE : Te → Int → Nat
  | .node k n _ l, j => if k = 1 then (if n = j then 1 else 0) else usesEL l (j + moreE k n)
def usesEL : List Te → Int → Nat
  | [], _ => 0
  | t :: r, j => usesE t j + usesEL r j
end
mutual
/-- Variables have no parts, and no number beyond K; alternatives none beyond M. -/
def tameE (K M : Int) : Te → Prop
  | .node k n _ l => (k = 1 → -K ≤ n ∧ n ≤ K ∧ l = []) ∧ (k = 6 → -M ≤ n ∧ n ≤ M) ∧ tameEL K M l
def tameEL (K M : Int) : List Te → Prop
  | [] => True
  | t :: r => tameE K M t ∧ tameEL K M r
end
mutual
/-- What the document's answer asks. -/
def tameB : Te → Bool
  | .node k n _ l => !((decide (k ≠ 7) && (decide (1099511627776 < n) || decide (n < -1099511627776))) || (decide (k = 1) && decide (0 < l.length))) && tameBL l
def tameBL : List Te → Bool
  | [] => true
  | t :: r => tameB t && tameBL r
end
theorem chEL_length (F : Int → ByteArray → Int → Te) : ∀ (l : List Te) (b : Int), (chEL F l b).length = l.length
  | [], _ => by simp [chEL]
  | t :: r, b => by simp [chEL, chEL_length F r b]
theorem chEL_map (F : Int → ByteArray → Int → Te) : ∀ (l : List Te) (b : Int), chEL F l b = l.map (chE F · b)
  | [], _ => by simp [chEL]
  | t :: r, b => by simp [chEL, chEL_map F r b]
theorem chEL_snoc (F : Int → ByteArray → Int → Te) (l : List Te) (t : Te) (b : Int) : chEL F (l ++ [t]) b = chEL F l b ++ [chE F t b] := by simp [chEL_map]
theorem chEL_take (F : Int → ByteArray → Int → Te) (l : List Te) (i : Nat) (b : Int) (h : i < l.length) : chEL F (l.take (i + 1)) b = chEL F (l.take i) b ++ [chE F (l[i]'h) b] := by
  rw [List.take_succ_eq_append_getElem h, chEL_snoc]
theorem usesEL_snoc (l : List Te) (t : Te) (j : Int) : usesEL (l ++ [t]) j = usesEL l j + usesE t j := by
  induction l with
  | nil => simp [usesEL]
  | cons a r ih => simp only [List.cons_append, usesEL, ih]; omega
theorem usesEL_take (l : List Te) (i : Nat) (j : Int) (h : i < l.length) : usesEL (l.take (i + 1)) j = usesEL (l.take i) j + usesE (l[i]'h) j := by
  rw [List.take_succ_eq_append_getElem h, usesEL_snoc]
theorem tameEL_mem {K M : Int} : ∀ (l : List Te) (t : Te), t ∈ l → tameEL K M l → tameE K M t
  | [], t, h, _ => by simp at h
  | a :: r, t, h, ht => by
    rw [tameEL] at ht
    rcases List.mem_cons.1 h with rfl | h
    · exact ht.1
    · exact tameEL_mem r t h ht.2
theorem tameEL_of {K M : Int} : ∀ (l : List Te), (∀ t ∈ l, tameE K M t) → tameEL K M l
  | [], _ => by rw [tameEL]; trivial
  | a :: r, h => by rw [tameEL]; exact ⟨h a (by simp), tameEL_of r fun t ht => h t (by simp [ht])⟩
mutual
theorem tameB_spec : ∀ t : Te, tameB t = true → tameE 1099511627776 1099511627776 t
  | .node k n s l, h => by
    rw [tameB] at h
    rw [tameE]
    simp only [Bool.and_eq_true, Bool.not_eq_true', Bool.or_eq_false_iff, Bool.and_eq_false_iff, decide_eq_false_iff_not] at h
    obtain ⟨⟨h1, h2⟩, h3⟩ := h
    refine ⟨fun hk => ?_, fun hk => by omega, tameBL_spec l h3⟩
    refine ⟨by omega, by omega, ?_⟩
    have : ¬ 0 < l.length := by
      rcases h2 with h2 | h2
      · exact absurd hk h2
      · exact h2
    exact List.eq_nil_of_length_eq_zero (by omega)
theorem tameBL_spec : ∀ l : List Te, tameBL l = true → tameEL 1099511627776 1099511627776 l
  | [], _ => by rw [tameEL]; trivial
  | t :: r, h => by
    rw [tameBL, Bool.and_eq_true] at h
    rw [tameEL]
    exact ⟨tameB_spec t h.1, tameBL_spec r h.2⟩
end
mutual
theorem usesE_le : ∀ (t : Te) (j : Int), usesE t j ≤ sizeE t
  | .node k n s l, j => by
    rw [usesE, sizeE]
    have := usesEL_le l (j + moreE k n)
    split
    · split <;> omega
    · omega
theorem usesEL_le : ∀ (l : List Te) (j : Int), usesEL l j ≤ sizeEL l
  | [], _ => by simp [usesEL]
  | t :: r, j => by rw [usesEL, sizeEL]; have := usesE_le t j; have := usesEL_le r j; omega
end
mutual
theorem tameE_mono {K M K' M' : Int} (hK : K ≤ K') (hM : M ≤ M') : ∀ t : Te, tameE K M t → tameE K' M' t
  | .node k n s l, h => by
    rw [tameE] at h ⊢
    refine ⟨fun hk => ?_, fun hk => ?_, tameEL_mono hK hM l h.2.2⟩
    · have := h.1 hk; exact ⟨by omega, by omega, this.2.2⟩
    · have := h.2.1 hk; omega
theorem tameEL_mono {K M K' M' : Int} (hK : K ≤ K') (hM : M ≤ M') : ∀ l : List Te, tameEL K M l → tameEL K' M' l
  | [], _ => by rw [tameEL]; trivial
  | t :: r, h => by rw [tameEL] at h ⊢; exact ⟨tameE_mono hK hM t h.1, tameEL_mono hK hM r h.2⟩
end
mutual
theorem chE_depth {F : Int → ByteArray → Int → Te} {D : Nat} (hD : 0 < D) (h : ∀ n s b, depthE (F n s b) ≤ D) : ∀ (t : Te) (b : Int), depthE (chE F t b) + 1 ≤ depthE t + D
  | .node k n s l, b => by
    rw [chE, depthE]
    split
    · have := h n s b; omega
    · rw [depthE]; have := chEL_depth hD h l (b + moreE k n); omega
theorem chEL_depth {F : Int → ByteArray → Int → Te} {D : Nat} (hD : 0 < D) (h : ∀ n s b, depthE (F n s b) ≤ D) : ∀ (l : List Te) (b : Int), depthEL (chEL F l b) + 1 ≤ depthEL l + D
  | [], _ => by simp [chEL, depthEL]; omega
  | t :: r, b => by rw [chEL, depthEL, depthEL]; have := chE_depth hD h t b; have := chEL_depth hD h r b; omega
end
mutual
theorem chE_size {F : Int → ByteArray → Int → Te} {S : Nat} (hS : 0 < S) (h : ∀ n s b, sizeE (F n s b) ≤ S) : ∀ (t : Te) (b : Int), sizeE (chE F t b) ≤ sizeE t * S
  | .node k n s l, b => by
    rw [chE]
    have := chEL_size hS h l (b + moreE k n)
    rw [sizeE, Nat.succ_mul]
    split
    · have := h n s b; omega
    · rw [sizeE]; omega
theorem chEL_size {F : Int → ByteArray → Int → Te} {S : Nat} (hS : 0 < S) (h : ∀ n s b, sizeE (F n s b) ≤ S) : ∀ (l : List Te) (b : Int), sizeEL (chEL F l b) ≤ sizeEL l * S
  | [], _ => by simp [chEL, sizeEL]
  | t :: r, b => by rw [chEL, sizeEL, sizeEL, Nat.add_mul]; have := chE_size hS h t b; have := chEL_size hS h r b; omega
end
mutual
theorem chE_tame {F : Int → ByteArray → Int → Te} {K K' M B : Int} (hM : 0 ≤ M) (hM1 : 1 ≤ M) (h : ∀ n s b, -K ≤ n → n ≤ K → -B ≤ b → b ≤ B → tameE K' M (F n s b)) : ∀ (t : Te) (b : Int), tameE K M t → -B ≤ b - (depthE t : Int) * M → b + (depthE t : Int) * M ≤ B → tameE K' M (chE F t b)
  | .node k n s l, b, ht, h1, h2 => by
    rw [tameE] at ht
    rw [depthE] at h1 h2
    have he : ((depthEL l + 1 : Nat) : Int) * M = (depthEL l : Int) * M + M := by rw [Int.natCast_add, Int.add_mul]; simp
    rw [he] at h1 h2
    have hp : 0 ≤ (depthEL l : Int) * M := Int.mul_nonneg (by omega) hM
    rw [chE]
    split
    · rename_i hk
      have := ht.1 hk
      exact h n s b this.1 this.2.1 (by omega) (by omega)
    · rename_i hk
      have hm : -M ≤ moreE k n ∧ moreE k n ≤ M := by
        rw [moreE]
        split
        · omega
        · split
          · rename_i h6; exact ht.2.1 h6
          · omega
      rw [tameE]
      exact ⟨fun e => absurd e hk, ht.2.1, chEL_tame hM hM1 h l (b + moreE k n) ht.2.2 (by omega) (by omega)⟩
theorem chEL_tame {F : Int → ByteArray → Int → Te} {K K' M B : Int} (hM : 0 ≤ M) (hM1 : 1 ≤ M) (h : ∀ n s b, -K ≤ n → n ≤ K → -B ≤ b → b ≤ B → tameE K' M (F n s b)) : ∀ (l : List Te) (b : Int), tameEL K M l → -B ≤ b - (depthEL l : Int) * M → b + (depthEL l : Int) * M ≤ B → tameEL K' M (chEL F l b)
  | [], _, _, _, _ => by rw [chEL, tameEL]; trivial
  | t :: r, b, ht, h1, h2 => by
    rw [tameEL] at ht
    rw [depthEL] at h1 h2
    have e1 : (depthE t : Int) * M ≤ ((max (depthE t) (depthEL r) : Nat) : Int) * M := Int.mul_le_mul_of_nonneg_right (by omega) hM
    have e2 : (depthEL r : Int) * M ≤ ((max (depthE t) (depthEL r) : Nat) : Int) * M := Int.mul_le_mul_of_nonneg_right (by omega) hM
    rw [chEL, tameEL]
    exact ⟨chE_tame hM hM1 h t b ht.1 (by omega) (by omega), chEL_tame hM hM1 h r b ht.2 (by omega) (by omega)⟩
end
theorem upE_depth (t : Te) (u f : Int) : depthE (upE t u f) ≤ depthE t := by
  have := chE_depth (F := upF u) (D := 1) (by omega) (fun n s b => by simp [upF, depthE, depthEL]) t f
  rw [upE]; omega
theorem upE_size (t : Te) (u f : Int) : sizeE (upE t u f) ≤ sizeE t := by
  have := chE_size (F := upF u) (S := 1) (by omega) (fun n s b => by simp [upF, sizeE, sizeEL]) t f
  rw [upE]; omega
theorem upE_tame {K M U : Int} {t : Te} (hM1 : 1 ≤ M) (ht : tameE K M t) (u f : Int) (h0 : -U ≤ u) (h1 : u ≤ U) (hU : 0 ≤ U) : tameE (K + U) M (upE t u f) := by
  have hp : 0 ≤ (depthE t : Int) * M := Int.mul_nonneg (by omega) (by omega)
  rw [upE]
  rcases Int.le_total 0 f with hf | hf
  · exact chE_tame (B := f + (depthE t : Int) * M) (by omega) hM1 (fun n s b h2 h3 _ _ => by
      rw [upF, tameE, tameEL]
      refine ⟨fun _ => ?_, fun e => by omega, trivial⟩
      split <;> exact ⟨by omega, by omega, rfl⟩) t f ht (by omega) (by omega)
  · exact chE_tame (B := -f + (depthE t : Int) * M) (by omega) hM1 (fun n s b h2 h3 _ _ => by
      rw [upF, tameE, tameEL]
      refine ⟨fun _ => ?_, fun e => by omega, trivial⟩
      split <;> exact ⟨by omega, by omega, rfl⟩) t f ht (by omega) (by omega)
theorem putF_depth (k : Int) (x : Te) (n : Int) (s : ByteArray) (b : Int) : depthE (putF k x n s b) ≤ depthE x := by
  rw [putF]
  split
  · exact upE_depth _ _ _
  · have := depthE_pos x; simp [depthE, depthEL]; omega
theorem putF_size (k : Int) (x : Te) (n : Int) (s : ByteArray) (b : Int) : sizeE (putF k x n s b) ≤ sizeE x := by
  rw [putF]
  split
  · exact upE_size _ _ _
  · have := sizeE_pos x; simp [sizeE, sizeEL]; omega
theorem putE_depth (t : Te) (k : Int) (x : Te) : depthE (putE t k x) + 1 ≤ depthE t + depthE x := by
  rw [putE]; exact chE_depth (depthE_pos x) (putF_depth k x) t 0
theorem putE_size (t : Te) (k : Int) (x : Te) : sizeE (putE t k x) ≤ sizeE t * sizeE x := by
  rw [putE]; exact chE_size (sizeE_pos x) (putF_size k x) t 0
theorem putE_tame {K : Int} {t x : Te} (hd : depthE t ≤ 4000) (ht : tameE K 8 t) (hx : tameE K 8 x) (k : Int) : tameE (K + 32001) 8 (putE t k x) := by
  rw [putE]
  refine chE_tame (B := 32000) (by omega) (by omega) (fun n s b h2 h3 h4 h5 => ?_) t 0 ht (by omega) (by omega)
  rw [putF]
  split
  · exact tameE_mono (by omega) (Int.le_refl _) _ (upE_tame (U := 32000) (by omega) hx b 0 (by omega) (by omega) (by omega))
  · rw [tameE, tameEL]
    refine ⟨fun _ => ?_, fun e => by omega, trivial⟩
    split <;> exact ⟨by omega, by omega, rfl⟩
theorem lastE_mem (l : List Te) (i : Nat) (h : i < l.length) : lastE l i = l[l.length - 1 - i]'(by omega) := by
  rw [lastE, List.getD_eq_getElem?_getD, List.getElem?_eq_getElem (by omega)]; rfl
theorem instF_depth {l : List Te} {D : Nat} (hD : 0 < D) (h : ∀ t ∈ l, depthE t ≤ D) (n : Int) (s : ByteArray) (b : Int) : depthE (instF l n s b) ≤ D := by
  rw [instF]
  split
  · rename_i hc
    rw [lastE_mem _ _ (by omega)]
    have := h _ (List.getElem_mem (by omega : l.length - 1 - (n - b).toNat < l.length))
    have := upE_depth (l[l.length - 1 - (n - b).toNat]'(by omega)) b 0
    omega
  · simp [depthE, depthEL]; omega
theorem instF_size {l : List Te} {S : Nat} (hS : 0 < S) (h : ∀ t ∈ l, sizeE t ≤ S) (n : Int) (s : ByteArray) (b : Int) : sizeE (instF l n s b) ≤ S := by
  rw [instF]
  split
  · rename_i hc
    rw [lastE_mem _ _ (by omega)]
    have := h _ (List.getElem_mem (by omega : l.length - 1 - (n - b).toNat < l.length))
    have := upE_size (l[l.length - 1 - (n - b).toNat]'(by omega)) b 0
    omega
  · simp [sizeE, sizeEL]; omega
mutual
theorem chE_congr {F G : Int → ByteArray → Int → Te} {a : Int} (h : ∀ n s b, F n s b = G n s (a + b)) : ∀ (t : Te) (b : Int), chE F t b = chE G t (a + b)
  | .node k n s l, b => by
    rw [chE, chE, h, chEL_congr h l, Int.add_assoc]
theorem chEL_congr {F G : Int → ByteArray → Int → Te} {a : Int} (h : ∀ n s b, F n s b = G n s (a + b)) : ∀ (l : List Te) (b : Int), chEL F l b = chEL G l (a + b)
  | [], b => by rw [chEL, chEL]
  | t :: r, b => by rw [chEL, chEL, chE_congr h t, chEL_congr h r]
end
theorem up_from (t : Te) (u f : Int) : chE (fun n s b => upF u n s (f + b)) t 0 = upE t u f := by
  rw [upE, chE_congr (G := upF u) (a := f) (fun _ _ _ => rfl), Int.add_zero]
end Lx
end Go.Proofs.YtobdoahdjbmflaaGreatDoor
namespace Go.Proofs.YtobdoahdjbmflaaGreatDoor
open Go.RowKit
namespace Lx
set_option maxRecDepth 100000
/-- The answer is a term as a value, its parts in new memory. -/
def GivesE (t : Te) (w : World) (e : Ending) (w' : World) : Prop :=
  ∃ A c, e = .returned (ev t A c) ∧ EIn w' (fun g => w.heap.size ≤ g) t A ∧ Below w.heap.size w w'
theorem run_make_rowE {P : Program} (t e : TypeId) (i : TypeInfo) (z : Value) (ht : P.underlying t = some (.slice e)) (hi : P.info? e = some i) (hz : i.zero = some z)
    (kl kc : IntKind) (n c : Nat) (hnc : n ≤ c) (hbytes : i.bytes * c ≤ 281474976710656) (h63 : c ≤ 9223372036854775807) (w : World) :
    (Instr.makeSlice t (.int kl (n : Int)) (.int kc (c : Int))).run P w = .ok (.slice (some ⟨w.heap.size, 0, none⟩) n c) (w.alloc (.cells (madeCells z.cells (c * i.size)) e)) := by
  have hb : (i.bytes : Int) * (c : Int) ≤ 281474976710656 := by
    have h : ((i.bytes * c : Nat) : Int) ≤ 281474976710656 := by omega
    rwa [Int.natCast_mul] at h
  have hr := run_make (P := P) w t e i z ht hi hz kl kc n c (by omega) (by omega) hb (by omega)
  simp only [Int.toNat_natCast] at hr
  exact hr
theorem take_set4 (cs : List Value) (p : Nat) (a b c d : Value) (h : p + 4 ≤ cs.length) :
    ((((cs.set p a).set (p + 1) b).set (p + 2) c).set (p + 3) d).take (p + 4) = cs.take p ++ [a, b, c, d] := by
  apply List.ext_getElem?
  intro j
  by_cases hj : j < p + 4
  · rw [List.getElem?_take_of_lt hj]
    by_cases h0 : j < p
    · rw [List.getElem?_append_left (by simp; omega), List.getElem?_take_of_lt h0]
      simp [show ¬ p = j by omega, show ¬ p + 1 = j by omega, show ¬ p + 2 = j by omega, show ¬ p + 3 = j by omega]
    · rw [List.getElem?_append_right (by simp; omega)]
      have hl : (cs.take p).length = p := by simp; omega
      rw [hl]
      rcases (by omega : j = p ∨ j = p + 1 ∨ j = p + 2 ∨ j = p + 3) with rfl | rfl | rfl | rfl
      · simp [List.getElem?_set]; omega
      · simp [List.getElem?_set, show p + 1 - p = 1 by omega]; omega
      · simp [List.getElem?_set, show p + 2 - p = 2 by omega]; omega
      · simp [List.getElem?_set, show p + 3 - p = 3 by omega]; omega
  · rw [List.getElem?_eq_none (by simp; omega), List.getElem?_eq_none (by simp; omega)]
theorem Lies.far4 {w : World} {g : Nat} {t : TypeId} {cs : Array Value} (h : Lies w g t cs) {G : Nat} (hg : g ≠ G) (o : Nat) (a b c d : Value) :
    Lies ((((w.setCell ⟨G, o, none⟩ a).setCell ⟨G, o + 1, none⟩ b).setCell ⟨G, o + 2, none⟩ c).setCell ⟨G, o + 3, none⟩ d) g t cs :=
  (((h.far (p := ⟨G, o, none⟩) hg _).far (p := ⟨G, o + 1, none⟩) hg _).far (p := ⟨G, o + 2, none⟩) hg _).far (p := ⟨G, o + 3, none⟩) hg _
theorem Below.four {B : Nat} {a w : World} (h : Below B a w) {G : Nat} (hg : B ≤ G) (o : Nat) (x y z u : Value) :
    Below B a ((((w.setCell ⟨G, o, none⟩ x).setCell ⟨G, o + 1, none⟩ y).setCell ⟨G, o + 2, none⟩ z).setCell ⟨G, o + 3, none⟩ u) :=
  (((h.setCell (p := ⟨G, o, none⟩) hg x).setCell (p := ⟨G, o + 1, none⟩) hg y).setCell (p := ⟨G, o + 2, none⟩) hg z).setCell (p := ⟨G, o + 3, none⟩) hg u
end Lx
end Go.Proofs.YtobdoahdjbmflaaGreatDoor
namespace Go.Proofs.YtobdoahdjbmflaaGreatDoor
open Go.RowKit
namespace Lx
set_option maxRecDepth 100000
end Lx
end Go.Proofs.YtobdoahdjbmflaaGreatDoor
