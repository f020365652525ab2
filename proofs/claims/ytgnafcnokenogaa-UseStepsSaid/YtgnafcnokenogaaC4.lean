/-
  Texts that lie one behind the other: UsN.
-/
import Derived.Test.YtgnafcnokenogaaC3
import Derived.Sort.CutIn
namespace Go.Proofs.Ytgnafcnokenogaa
open Go Go.RowKit
attribute [local go_sem] Oper.semAt_some
namespace Lx
theorem wide_fn (f : FuncId) : Fence.wide.fn f = True := rfl
theorem wide_depth : Fence.wide.depth = none := rfl
attribute [local go_sem] wide_fn wide_depth
set_option maxRecDepth 100000
section
variable {l M T Yb bm : Nat} {full : List Int} {J Jx : List Int → (Nat → Prop) → World → Prop} {X : Nat → Prop}
set_option maxHeartbeats 4000000 in
theorem thr_node (hA : Asks l full J Jx) (d : Nat)
    (ih : ∀ (t : Te) (A : Option Addr) (c : Nat) (b : Int) (N : Nat) (C : Int → Int) (pre : List Int) (Z : Nat → Prop) (W : World), ThrPre l M T Yb bm full J X t A d b N C pre Z W →
      Calls Try.prog 31 (thrArgs M T Yb (ev t A c) b) W (ThrPost l M T Yb bm full J Jx t b N C pre Z W))
    (k n : Int) (s : ByteArray) (t0 : Te) (r : List Te) (A : Option Addr) (c : Nat) (b : Int) (N : Nat) (C : Int → Int) (pre : List Int) (Z : Nat → Prop) (W : World) (hk : k ≠ 1)
    (h : ThrPre l M T Yb bm full J X (.node k n s (t0 :: r)) A (d + 1) b N C pre Z W) :
    Calls Try.prog 31 (thrArgs M T Yb (ev (.node k n s (t0 :: r)) A c) b) W (ThrPost l M T Yb bm full J Jx (.node k n s (t0 :: r)) b N C pre Z W) := by
  show Calls Try.prog 31 #[.agg #[.int .i64 k, .int .i64 n, .string s, .slice A (r.length + 1) (capF (r.length + 1) c)], .int .i64 b, .pointer (some ⟨M, 0, none⟩), .pointer (some ⟨T, 0, none⟩), .pointer (some ⟨Yb, 0, none⟩)] W _
  have hcap : r.length + 1 ≤ capF (r.length + 1) c := le_capF _ _
  generalize capF (r.length + 1) c = c at hcap ⊢
  have hlies := h.lies
  have hlen : (t0 :: r).length ≤ 140737488351232 := by rw [EIn] at hlies; exact hlies.2.1
  obtain ⟨g, o, A0, c0, ⟨hAs, hXg⟩, d0, d1, d2, d3, hI0⟩ := EIn.part hlies 0 (by show 0 < (t0 :: r).length; simp)
  subst hAs
  have HL : Hid (ELIn W X (t0 :: r) (some ⟨g, o, none⟩) 0) := Lib.hid (by rw [EIn] at hlies; exact hlies.2.2)
  have hgW : g < W.heap.size := cell_lt d0
  simp only [List.length_cons] at hlen
  obtain ⟨m, hm⟩ : ∃ m, m = r.length := ⟨_, rfl⟩
  rw [← hm] at hcap hlen ⊢
  have HM := Lib.hid hm
  have H := Lib.hid h
  have hk1 : (k == 1) = false := by simpa using hk
  obtain ⟨w3, hw3⟩ : ∃ w3, w3 = ((W.alloc (.cells #[.int .i64 k, .int .i64 n, .string s, .slice (some ⟨g, o, none⟩) (m + 1) c] 24)).alloc (.cells #[.int .i64 b] 3)).alloc (.cells #[.bool false] 4) := ⟨_, rfl⟩
  have hG3 : Gz No No W No w3 := by rw [hw3]; exact (((Gz.refl _ _ _).alloc _).alloc _).alloc _
  have hs3 : w3.heap.size = W.heap.size + 3 := by rw [hw3]; simp
  have L0 : Lies w3 W.heap.size 24 #[.int .i64 k, .int .i64 n, .string s, .slice (some ⟨g, o, none⟩) (m + 1) c] := by rw [hw3]; exact ((Lies.new _ _ _).old _).old _
  have L1 : Lies w3 (W.heap.size + 1) 3 #[.int .i64 b] := by rw [hw3]; exact (lies_next _ _ _ _ (by simp)).old _
  have L2 : Lies w3 (W.heap.size + 2) 4 #[.bool false] := by rw [hw3]; exact lies_next _ _ _ _ (by simp)
  have c0 := L0.four
  obtain ⟨R, hR⟩ : ∃ R, R = ThrPost l M T Yb bm full J Jx (.node k n s (t0 :: r)) b N C pre Z W := ⟨_, rfl⟩
  rw [← hR]
  have HR := Lib.hid hR
  clear hm h hk hlies hR d0 d1 d2 d3 hI0
  refine (callsIn_wide (n := 0)).1 ?_
  refine callsIn_of_wp_marks Try.func31 rfl trivial ?_ rfl
  simp only [Try.ntmps31, List.size_toArray, List.length_cons, List.length_nil, Nat.reduceAdd, Nat.reduceSub, Array.replicate_succ, Array.replicate_zero, List.push_toArray, List.append_toArray, List.nil_append, List.cons_append]
  gi_upto_region 1 with fail
  rw [← hw3]
  clear hw3
  gi_upto_region 5 with fail
  gi_cut [31] from 75 (fun v wx => ∃ o2 c2, (m = 0 ∨ o2 = o + 4) ∧ v = .func (.func 46) #[] #[.pointer (some ⟨W.heap.size + 3, 0, none⟩)] ∧ wx = w3.alloc (.cells #[.slice (some ⟨g, o2, none⟩) m c2] 22))
  case first =>
    gi_wp2_with (gi_at_call 32; refine (callsIn_wide.2 (backT_any _ _ _ _)).mono ?_; rintro e w' ⟨rfl, rfl⟩)
    · have hc1 : c = 1 := by omega
      subst hc1
      gi_meet
      exact ⟨_, _, .inl (by omega), rfl, rfl⟩
    · gi_meet
      exact ⟨_, _, .inr rfl, rfl, rfl⟩
  case rest =>
    obtain ⟨o2, c2, hmo, rfl, rfl⟩ := hcut
    obtain ⟨V1, hV1⟩ : ∃ V1, V1 = w3.alloc (.cells #[.slice (some ⟨g, o2, none⟩) m c2] 22) := ⟨_, rfl⟩
    have hG1 : Gz No No W No V1 := by rw [hV1]; exact hG3.alloc _
    have hs1 : V1.heap.size = W.heap.size + 4 := by rw [hV1]; simp [hs3]
    have L0' : Lies V1 W.heap.size 24 #[.int .i64 k, .int .i64 n, .string s, .slice (some ⟨g, o, none⟩) (m + 1) c] := by rw [hV1]; exact L0.old _
    have L1' : Lies V1 (W.heap.size + 1) 3 #[.int .i64 b] := by rw [hV1]; exact L1.old _
    have L2' : Lies V1 (W.heap.size + 2) 4 #[.bool false] := by rw [hV1]; exact L2.old _
    have L3' : Lies V1 (W.heap.size + 3) 22 #[.slice (some ⟨g, o2, none⟩) m c2] := by rw [hV1]; exact lies_next _ _ _ _ (by omega)
    rw [← hV1]
    clear hV1 L0 L1 L2 c0 hG3 hs3
    gi_wp2
    rename_i K1 hK1
    -- what the parts are
    have hex : ∀ j, ∃ v : Value, ∀ hj : j < r.length, ∃ A' c', v = ev (r[j]'hj) A' c' ∧ EIn W X (r[j]'hj) A' ∧ W.cell? ⟨g, o + (j + 1) * 4, none⟩ = some (.int .i64 (r[j]'hj).kind) ∧ W.cell? ⟨g, o + (j + 1) * 4 + 1, none⟩ = some (.int .i64 (r[j]'hj).n) ∧
        W.cell? ⟨g, o + (j + 1) * 4 + 2, none⟩ = some (.string (r[j]'hj).name) ∧ W.cell? ⟨g, o + (j + 1) * 4 + 3, none⟩ = some (.slice A' (r[j]'hj).parts.length (capF (r[j]'hj).parts.length c')) := by
      intro j
      by_cases hj : j < r.length
      · obtain ⟨g', o', A', c', ⟨e1, hX⟩, x0, x1, x2, x3, hI⟩ := ELIn.at_ (t0 :: r) HL.out (j + 1) (by simpa using hj)
        injection e1 with e1
        injection e1 with e1 e2
        subst e1 e2
        simp only [List.getElem_cons_succ, Nat.zero_add] at x0 x1 x2 x3 hI
        exact ⟨ev (r[j]'hj) A' c', fun hj' => ⟨A', c', rfl, hI, x0, x1, x2, x3⟩⟩
      · exact ⟨undef, fun h => absurd h hj⟩
    obtain ⟨av, hav⟩ := Classical.axiomOfChoice hex
    have HAV := Lib.hid hav
    clear hex hav
    have hZ := hA.lt _ _ _ H.out.asks
    have HZ := Lib.hid hZ
    have HOX := Lib.hid H.out.offX
    have HOM := Lib.hid H.out.offM
    have hbm := H.out.mapi.lt
    have hML : M < W.heap.size := World.block_lt_of_cell? W _ H.out.held.m
    have hTL : T < W.heap.size := World.block_lt_of_cell? W _ H.out.held.t
    have hYL : Yb < W.heap.size := World.block_lt_of_cell? W _ H.out.held.y
    have hmo : -1099511627776 ≤ moreE k n ∧ moreE k n ≤ 1099511627776 := by
      have ht := H.out.tame
      rw [tameE] at ht
      rw [moreE]
      split
      · omega
      · split
        · rename_i h6; exact ht.2.1 h6
        · omega
    obtain ⟨mo, hmoe⟩ : ∃ mo, mo = moreE k n := ⟨_, rfl⟩
    rw [← hmoe] at hmo
    have HMO := Lib.hid hmoe
    clear hmoe hZ
    refine range_rec rfl (enters_of Try.func46 (by kernel_rfl) rfl) (fun fn rec hrec => ?_)
    rw [hs1]
    obtain ⟨V2, hV2⟩ : ∃ V2, V2 = (V1.alloc (.deferred (some []))).alloc (.loop (rec .ready none)) := ⟨_, rfl⟩
    have hG2 : Gz No No W No V2 := by rw [hV2]; exact (hG1.alloc _).alloc _
    have hs2 : V2.heap.size = W.heap.size + 6 := by rw [hV2]; simp [hs1]
    have hl2 : V2.heap[W.heap.size + 4 + 1]? = some (.loop (rec .ready none)) := by
      rw [hV2]
      have := World.alloc_heap_new (V1.alloc (.deferred (some []))) (.loop (rec .ready none))
      rwa [World.size_alloc, hs1] at this
    have hd2 : V2.heap[W.heap.size + 4]? = some (.deferred (some [])) := by
      rw [hV2]
      have := World.alloc_heap_new V1 (.deferred (some []))
      rw [hs1] at this
      exact (Below.heap_alloc _ _ _ (by simp [hs1])).trans this
    have M0 : Lies V2 W.heap.size 24 #[.int .i64 k, .int .i64 n, .string s, .slice (some ⟨g, o, none⟩) (m + 1) c] := by rw [hV2]; exact (L0'.old _).old _
    have M1 : Lies V2 (W.heap.size + 1) 3 #[.int .i64 b] := by rw [hV2]; exact (L1'.old _).old _
    have M2 : Lies V2 (W.heap.size + 2) 4 #[.bool false] := by rw [hV2]; exact (L2'.old _).old _
    have M3 : Lies V2 (W.heap.size + 3) 22 #[.slice (some ⟨g, o2, none⟩) m c2] := by rw [hV2]; exact (L3'.old _).old _
    rw [← hV2]
    clear hV2 L0' L1' L2' L3' hG1
    have HB : Hid (∀ q, q ≤ 5 → ¬ Z (W.heap.size + q)) := Lib.hid fun q _ hz => by have := HZ.out _ hz; omega
    -- what holds between two rounds
    obtain ⟨J1, hJ1⟩ : ∃ J1 : Nat → World → Prop, J1 = fun i U => ∃ Z1, Gz (fun q => q = bm ∨ q = W.heap.size + 4 + 1) Z V2 Z1 U ∧ U.heap[W.heap.size + 4 + 1]? = some (.loop (rec .ready none)) ∧
        MapIs U bm (N + sizeEL (r.drop i)) (keyCL C (r.drop i) (b + mo)) ∧ J (pre ++ (ofEL (r.drop i)).reverse) Z1 U := ⟨_, rfl⟩
    obtain ⟨Jx1, hJx1⟩ : ∃ Jx1 : World → Prop, Jx1 = fun U => ∃ Z1, Gz (fun q => q = bm ∨ q = W.heap.size + 4 + 1 ∨ q = W.heap.size + 2) Z V2 Z1 U ∧ U.heap[W.heap.size + 4 + 1]? = some (.loop (rec .done (some .ret))) ∧
        U.cell? ⟨W.heap.size + 2, 0, none⟩ = some (.bool false) ∧ ∃ q, pre ++ q <+: full ∧ Jx (pre ++ q) Z1 U := ⟨_, rfl⟩
    refine (backT_in (W.heap.size + 4 + 1) (W.heap.size + 3) g o2 m c2 (some ⟨g, o2, none⟩) av J1 Jx1 (by omega) (fun _ => rfl) ?hJ ?hY V2 ?h0).mono ?_
    case h0 =>
      rw [hJ1]
      refine ⟨Z, Gz.refl _ _ _, hl2, ?_, ?_⟩
      · rw [List.drop_of_length_le (by rw [HM.out]; exact Nat.le_refl _), keyCL_nil]
        simp only [sizeEL, Nat.add_zero]
        exact H.out.mapi.heap (hG2.same bm hbm (fun h => h) (fun h => h))
      · rw [List.drop_of_length_le (by rw [HM.out]; exact Nat.le_refl _)]
        simp only [ofEL, List.reverse_nil, List.append_nil]
        exact hA.own H.out.asks hG2 fun _ _ h => h
    case hJ =>
      intro i U hU
      rw [hJ1] at hU
      obtain ⟨Z1, hG, _, _, _⟩ := hU
      have hGW : Gz (· = bm) Z W Z1 U := hG2.any.more (fun _ h => h.elim) |>.tail hG fun q hq hE => hE.elim id (fun e => by omega)
      refine ⟨hG.cell (M3.cell 0) (HB.out 3 (by omega)) (fun h => by omega), fun j hj => ?_⟩
      have hj' : j < r.length := by have := HM.out; omega
      obtain ⟨A', c', hv, _, x0, x1, x2, x3⟩ := HAV.out j hj'
      have hXg' := (HOX.out g hXg).2
      have ho2 : o2 = o + 4 := by omega
      rw [ho2]
      refine ⟨_, _, _, _, _, _, hv, ?_, ?_, ?_, ?_⟩
      · rw [show o + 4 + j * 4 = o + (j + 1) * 4 from by omega]; exact hGW.cell x0 hXg'.1 hXg'.2
      · rw [show o + 4 + j * 4 + 1 = o + (j + 1) * 4 + 1 from by omega]; exact hGW.cell x1 hXg'.1 hXg'.2
      · rw [show o + 4 + j * 4 + 2 = o + (j + 1) * 4 + 2 from by omega]; exact hGW.cell x2 hXg'.1 hXg'.2
      · rw [show o + 4 + j * 4 + 3 = o + (j + 1) * 4 + 3 from by omega]; exact hGW.cell x3 hXg'.1 hXg'.2
    case hY =>
      intro i U hi hU
      rw [hJ1] at hU
      obtain ⟨Z1, hG, hlU, hmapU, hJU⟩ := hU
      have hi' : i < r.length := by have := HM.out; omega
      have hGW : Gz (· = bm) Z W Z1 U := hG2.any.more (fun _ h => h.elim) |>.tail hG fun q hq hE => hE.elim id (fun e => by omega)
      obtain ⟨A', c', hv, hIi, _, _, _, _⟩ := HAV.out i hi'
      rw [hv]
      obtain ⟨ti, hti⟩ : ∃ ti, ti = r[i]'hi' := ⟨_, rfl⟩
      have HTI := Lib.hid hti
      rw [← hti] at hIi ⊢
      clear hv hti
      obtain ⟨tk, tn, ts, tl⟩ := ti
      show YieldAt _ _ _ _ #[.int .i64 (i : Int), .agg #[.int .i64 tk, .int .i64 tn, .string ts, .slice A' tl.length (capF tl.length c')]] U _
      have hUs := hG.size
      have hlt := (Array.getElem?_eq_some_iff.1 hlU).1
      obtain ⟨V7, hV7⟩ : ∃ V7, V7 = U.alloc (.cells #[.int .i64 tk, .int .i64 tn, .string ts, .slice A' tl.length (capF tl.length c')] 24) := ⟨_, rfl⟩
      have hGo7 : Gz No No U No V7 := by rw [hV7]; exact (Gz.refl _ _ _).alloc _
      have hl7 : V7.heap[W.heap.size + 4 + 1]? = some (.loop (rec .ready none)) := hGo7.heap hlU (fun h => h) (fun h => h)
      have hs7 : V7.heap.size = U.heap.size + 1 := by rw [hV7]; simp
      have N7 : Lies V7 U.heap.size 24 #[.int .i64 tk, .int .i64 tn, .string ts, .slice A' tl.length (capF tl.length c')] := by rw [hV7]; exact Lies.new _ _ _
      obtain ⟨V8, hV8⟩ : ∃ V8, V8 = V7.putObj (W.heap.size + 4 + 1) (.loop (rec .busy none)) := ⟨_, rfl⟩
      have hGo8 : Gz (· = W.heap.size + 4 + 1) No U No V8 := by rw [hV8]; exact (hGo7.more (fun _ h => h.elim)).put _ (.inr rfl)
      have hl8 : V8.heap[W.heap.size + 4 + 1]? = some (.loop (rec .busy none)) := by rw [hV8]; exact World.putObj_heap_same (by omega)
      have hs8 : V8.heap.size = U.heap.size + 1 := by rw [hV8, World.putObj_size, hs7]
      have N8 : Lies V8 U.heap.size 24 #[.int .i64 tk, .int .i64 tn, .string ts, .slice A' tl.length (capF tl.length c')] := by rw [hV8]; exact (World.putObj_heap_other (by omega)).trans N7
      have hG8 : Gz (fun q => q = bm ∨ q = W.heap.size + 4 + 1) Z V2 Z1 V8 := hG.tail hGo8.any (fun q _ h => .inr h)
      have hGW8 : Gz (· = bm) Z W Z1 V8 := hG2.any.more (fun _ h => h.elim) |>.tail hG8 fun q hq hE => hE.elim id (fun e => by omega)
      have hJ8 : J (pre ++ (ofEL (r.drop (i + 1))).reverse) Z1 V8 := hA.own hJU hGo8 fun q hz e => hG.not (k := W.heap.size + 4 + 1) (by omega) (fun h => HB.out 5 (by omega) h) (by subst e; exact hz)
      have hm8 : MapIs V8 bm (N + sizeEL (r.drop (i + 1))) (keyCL C (r.drop (i + 1)) (b + mo)) := hmapU.heap (hGo8.same bm hmapU.lt (fun h => h) (by omega))
      have hbZ : ∀ q, q < W.heap.size → ¬ Z q → ¬ Z1 q := fun q hq hz => hGW.not hq hz
      refine yield_rec hrec hlU rfl ?_
      rw [hJ1, hJx1]
      gi_wp2
      rw [← hV7]
      refine ⟨hl7, ?_⟩
      rw [← hV8]
      have hcT := H.out.held.t
      have HG7 : Hid (∀ V' Z3, Gz (· = bm) Z1 V8 Z3 V' → (fun V' : World => (V'.cell? ⟨T, 0, none⟩ = some (.func (.func 31) #[] #[.pointer (some ⟨M, 0, none⟩), .pointer (some ⟨T, 0, none⟩), .pointer (some ⟨Yb, 0, none⟩)]) ∧ V'.cell? ⟨U.heap.size, 0, none⟩ = some (.int .i64 tk) ∧ V'.cell? ⟨U.heap.size, 1, none⟩ = some (.int .i64 tn) ∧ V'.cell? ⟨U.heap.size, 2, none⟩ = some (.string ts) ∧ V'.cell? ⟨U.heap.size, 3, none⟩ = some (.slice A' tl.length (capF tl.length c')) ∧ V'.cell? ⟨W.heap.size + 1, 0, none⟩ = some (.int .i64 b) ∧ V'.cell? ⟨W.heap.size, 0, none⟩ = some (.int .i64 k) ∧ V'.cell? ⟨W.heap.size, 1, none⟩ = some (.int .i64 n) ∧ V'.cell? ⟨W.heap.size, 2, none⟩ = some (.string s) ∧ V'.cell? ⟨W.heap.size, 3, none⟩ = some (.slice (some ⟨g, o, none⟩) (m + 1) c))) V') := Lib.hid fun V' Z3 hG9 => by
        have q0 := hbZ W.heap.size |> fun _ => HB.out 0 (by omega)
        have z0 : ¬ Z1 W.heap.size := hG8.not (by omega) q0
        have z1 : ¬ Z1 (W.heap.size + 1) := hG8.not (by omega) (HB.out 1 (by omega))
        have zu : ¬ Z1 U.heap.size := fun h => by have := hA.lt _ _ _ hJU _ h; omega
        have zt := HOM.out T (.inr (.inl rfl))
        have P0 := hG8.lies M0 (HB.out 0 (by omega)) (by omega)
        have P1 := hG8.lies M1 (HB.out 1 (by omega)) (by omega)
        have Q0 : Lies V' W.heap.size 24 #[.int .i64 k, .int .i64 n, .string s, .slice (some ⟨g, o, none⟩) (m + 1) c] := hG9.lies P0 z0 (by omega)
        have Q1 : Lies V' (W.heap.size + 1) 3 #[.int .i64 b] := hG9.lies P1 z1 (by omega)
        have Q8 : Lies V' U.heap.size 24 #[.int .i64 tk, .int .i64 tn, .string ts, .slice A' tl.length (capF tl.length c')] := hG9.lies N8 zu (by have := hmapU.lt; omega)
        exact ⟨hG9.cell (hGW8.cell hcT zt.1 zt.2) (hbZ T hTL zt.1) zt.2, Q8.cell 0, Q8.cell 1, Q8.cell 2, Q8.cell 3, Q1.cell 0, Q0.cell 0, Q0.cell 1, Q0.cell 2, Q0.cell 3⟩
      have HS7 : Hid (∀ V', Below V8.heap.size V8 V' → (fun V' : World => (V'.cell? ⟨T, 0, none⟩ = some (.func (.func 31) #[] #[.pointer (some ⟨M, 0, none⟩), .pointer (some ⟨T, 0, none⟩), .pointer (some ⟨Yb, 0, none⟩)]) ∧ V'.cell? ⟨U.heap.size, 0, none⟩ = some (.int .i64 tk) ∧ V'.cell? ⟨U.heap.size, 1, none⟩ = some (.int .i64 tn) ∧ V'.cell? ⟨U.heap.size, 2, none⟩ = some (.string ts) ∧ V'.cell? ⟨U.heap.size, 3, none⟩ = some (.slice A' tl.length (capF tl.length c')) ∧ V'.cell? ⟨W.heap.size + 1, 0, none⟩ = some (.int .i64 b) ∧ V'.cell? ⟨W.heap.size, 0, none⟩ = some (.int .i64 k) ∧ V'.cell? ⟨W.heap.size, 1, none⟩ = some (.int .i64 n) ∧ V'.cell? ⟨W.heap.size, 2, none⟩ = some (.string s) ∧ V'.cell? ⟨W.heap.size, 3, none⟩ = some (.slice (some ⟨g, o, none⟩) (m + 1) c))) V') := Lib.hid fun V' hb => HG7.out V' Z1 (Gz.of_below hb (Nat.le_refl _))
      have hdm : depthE (.node tk tn ts tl) ≤ d ∧ sizeE (.node tk tn ts tl) + sizeEL (r.drop (i + 1)) ≤ sizeEL r ∧ tameE 1099511627776 1099511627776 (.node tk tn ts tl) := by
        have h1 := H.out.dep
        have h3 := H.out.tame
        rw [depthE, depthEL] at h1
        rw [tameE, tameEL] at h3
        have h4 := depthEL_mem r (r[i]'hi') (List.getElem_mem hi')
        have h5 := sizeEL_drop r i hi'
        have h6 := sizeEL_drop_le r i
        have h7 := tameEL_mem r (r[i]'hi') (List.getElem_mem hi') h3.2.2.2
        rw [← HTI.out] at h4 h5 h7
        exact ⟨by omega, by omega, h7⟩
      have hpr : pre ++ (ofEL (r.drop (i + 1))).reverse ++ (ofE (.node tk tn ts tl)).reverse = pre ++ (ofEL (r.drop i)).reverse := by
        rw [ofEL_drop r i hi', ← HTI.out]
        simp [List.append_assoc]
      have HPR := Lib.hid hpr
      have HTH : Hid (∀ Xw, Below V8.heap.size V8 Xw → Calls Try.prog 31 #[.agg #[.int .i64 tk, .int .i64 tn, .string ts, .slice A' tl.length (capF tl.length c')], .int .i64 (b + mo), .pointer (some ⟨M, 0, none⟩), .pointer (some ⟨T, 0, none⟩), .pointer (some ⟨Yb, 0, none⟩)] Xw
          (ThrPost l M T Yb bm full J Jx (.node tk tn ts tl) (b + mo) (N + sizeEL (r.drop (i + 1))) (keyCL C (r.drop (i + 1)) (b + mo)) (pre ++ (ofEL (r.drop (i + 1))).reverse) Z1 Xw)) := Lib.hid fun Xw hX => by
        have hGX : Gz No No V8 No Xw := Gz.of_below hX (Nat.le_refl _)
        have hGWX : Gz (· = bm) Z W Z1 Xw := hGW8.trans (hGX.any.more (fun _ h => h.elim))
        have hb0 := H.out.b0
        have hb1 := H.out.b1
        have hsz := H.out.siz
        rw [sizeE, sizeEL] at hsz
        exact ih (.node tk tn ts tl) A' c' (b + mo) _ _ _ Z1 Xw
          { dep := hdm.1, dep4 := by have := H.out.dep4; omega, siz := by have := sizeE_pos t0; omega, tame := hdm.2.2, b0 := by omega, b1 := by omega
            lies := EIn.gz _ hIi hGWX fun g hg => (HOX.out g hg).2
            mapi := hm8.heap (hGX.same bm hm8.lt (fun h => h) (fun h => h))
            cbd := keyCL_bound H.out.cbd _ _
            held := H.out.held.gz hGWX HOM.out
            asks := hA.own hJ8 hGX fun _ _ h => h
            offX := fun g hg => ⟨by have := (HOX.out g hg).1; have := hGWX.size; omega, hbZ g (HOX.out g hg).1 (HOX.out g hg).2.1, (HOX.out g hg).2.2⟩
            offM := fun q hq => ⟨hbZ q (by omega) (HOM.out q hq).1, (HOM.out q hq).2⟩
            offB := hbZ bm hbm H.out.offB
            pref := by
              rw [HPR.out]
              refine app_pref (ofEL_rev r i) ?_
              have := H.out.pref
              rw [of_rev, ← List.append_assoc] at this
              exact (List.prefix_append _ _).trans this }
      have hbb : -4611686018427387904 ≤ b ∧ b ≤ 4611686018427387904 := by
        have := H.out.b0
        have := H.out.b1
        omega
      have HBI : Hid (∀ Xw, Calls Try.prog 26 #[.agg #[.int .i64 k, .int .i64 n, .string s, .slice (some ⟨g, o, none⟩) (m + 1) c]] Xw fun e w' => e = .returned (.int .i64 mo) ∧ Below Xw.heap.size Xw w') := Lib.hid fun Xw => by rw [HMO.out]; exact ubinders_any k n s _ _ _ Xw
      clear hpr hdm hJ8 hm8 hGo8 hGo7 hV7 hV8 hl7 N7 hJU hmapU hGW hIi hbZ hG N8
      gi_upto_region 7 with fail
      refine region_H_round (S := (fun V' : World => (V'.cell? ⟨T, 0, none⟩ = some (.func (.func 31) #[] #[.pointer (some ⟨M, 0, none⟩), .pointer (some ⟨T, 0, none⟩), .pointer (some ⟨Yb, 0, none⟩)]) ∧ V'.cell? ⟨U.heap.size, 0, none⟩ = some (.int .i64 tk) ∧ V'.cell? ⟨U.heap.size, 1, none⟩ = some (.int .i64 tn) ∧ V'.cell? ⟨U.heap.size, 2, none⟩ = some (.string ts) ∧ V'.cell? ⟨U.heap.size, 3, none⟩ = some (.slice A' tl.length (capF tl.length c')) ∧ V'.cell? ⟨W.heap.size + 1, 0, none⟩ = some (.int .i64 b) ∧ V'.cell? ⟨W.heap.size, 0, none⟩ = some (.int .i64 k) ∧ V'.cell? ⟨W.heap.size, 1, none⟩ = some (.int .i64 n) ∧ V'.cell? ⟨W.heap.size, 2, none⟩ = some (.string s) ∧ V'.cell? ⟨W.heap.size, 3, none⟩ = some (.slice (some ⟨g, o, none⟩) (m + 1) c)))) rfl (by kernel_rfl) (HS7.out _ (Below.refl _ _).drew) (fun hSs => ?_)
      change wpAnyH _ _ _ _ _ 8 (Array.replicate 8 false) _ _
      refine wpAnyH_take (i := 0) (oi := ⟨some 34, _, _, _, _, _⟩) (v := .func (.func 31) #[] #[.pointer (some ⟨M, 0, none⟩), .pointer (some ⟨T, 0, none⟩), .pointer (some ⟨Yb, 0, none⟩)]) rfl (by kernel_rfl) (by kernel_rfl) (by kernel_rfl) (fun _ _ _ h => h) (.inl ⟨by kernel_rfl, fun W hW => by first | (obtain ⟨z0, z1, z2, z3, z4, z5, z6, z7, z8, z9⟩ := hW; go_simp; done) | (obtain ⟨z0, z1, z2, z3, z4, z5, z6, z7, z8, z9⟩ := hW; go_simp; omega) | (obtain ⟨z0, z1, z2, z3, z4, z5, z6, z7, z8, z9⟩ := hW; go_simp; exact IntWalk.i64_in _ (by omega)) | (obtain ⟨z0, z1, z2, z3, z4, z5, z6, z7, z8, z9⟩ := hW; go_simp; simp [*]; done)⟩) hSs ?_
      try simp only [Act.put, List.setIfInBounds_toArray, List.set_cons_zero, List.set_cons_succ]
      refine wpAnyH_take (i := 1) (oi := ⟨some 35, _, _, _, _, _⟩) (v := (.agg #[.int .i64 tk, .int .i64 tn, .string ts, .slice A' tl.length (capF tl.length c')])) rfl (by kernel_rfl) (by kernel_rfl) (by kernel_rfl) (fun _ _ _ h => h) (.inl ⟨by kernel_rfl, fun W hW => by first | (obtain ⟨z0, z1, z2, z3, z4, z5, z6, z7, z8, z9⟩ := hW; go_simp; done) | (obtain ⟨z0, z1, z2, z3, z4, z5, z6, z7, z8, z9⟩ := hW; go_simp; omega) | (obtain ⟨z0, z1, z2, z3, z4, z5, z6, z7, z8, z9⟩ := hW; go_simp; exact IntWalk.i64_in _ (by omega)) | (obtain ⟨z0, z1, z2, z3, z4, z5, z6, z7, z8, z9⟩ := hW; go_simp; simp [*]; done)⟩) hSs ?_
      try simp only [Act.put, List.setIfInBounds_toArray, List.set_cons_zero, List.set_cons_succ]
      refine wpAnyH_take (i := 2) (oi := ⟨some 36, _, _, _, _, _⟩) (v := .int .i64 b) rfl (by kernel_rfl) (by kernel_rfl) (by kernel_rfl) (fun _ _ _ h => h) (.inl ⟨by kernel_rfl, fun W hW => by first | (obtain ⟨z0, z1, z2, z3, z4, z5, z6, z7, z8, z9⟩ := hW; go_simp; done) | (obtain ⟨z0, z1, z2, z3, z4, z5, z6, z7, z8, z9⟩ := hW; go_simp; omega) | (obtain ⟨z0, z1, z2, z3, z4, z5, z6, z7, z8, z9⟩ := hW; go_simp; exact IntWalk.i64_in _ (by omega)) | (obtain ⟨z0, z1, z2, z3, z4, z5, z6, z7, z8, z9⟩ := hW; go_simp; simp [*]; done)⟩) hSs ?_
      try simp only [Act.put, List.setIfInBounds_toArray, List.set_cons_zero, List.set_cons_succ]
      refine wpAnyH_take (i := 3) (oi := ⟨some 37, _, _, _, _, _⟩) (v := (.agg #[.int .i64 k, .int .i64 n, .string s, .slice (some ⟨g, o, none⟩) (m + 1) c])) rfl (by kernel_rfl) (by kernel_rfl) (by kernel_rfl) (fun _ _ _ h => h) (.inl ⟨by kernel_rfl, fun W hW => by first | (obtain ⟨z0, z1, z2, z3, z4, z5, z6, z7, z8, z9⟩ := hW; go_simp; done) | (obtain ⟨z0, z1, z2, z3, z4, z5, z6, z7, z8, z9⟩ := hW; go_simp; omega) | (obtain ⟨z0, z1, z2, z3, z4, z5, z6, z7, z8, z9⟩ := hW; go_simp; exact IntWalk.i64_in _ (by omega)) | (obtain ⟨z0, z1, z2, z3, z4, z5, z6, z7, z8, z9⟩ := hW; go_simp; simp [*]; done)⟩) hSs ?_
      try simp only [Act.put, List.setIfInBounds_toArray, List.set_cons_zero, List.set_cons_succ]
      refine wpAnyH_ready (rs := [4]) (by kernel_rfl) (by simp) (AllReadyH.cons rfl (fun K hK => ?_) AllReadyH.nil)
      go_simp
      refine (HBI.out _).mono ?_
      rintro e u2 ⟨rfl, hq2⟩
      have hb2 : Below V8.heap.size V8 u2 := (Below.refl _ V8).drew.trans hq2
      refine hK.out _ _ (HS7.out _ hb2) (fun hS2 => ?_)
      clear hK K
      try simp only [Act.put, List.setIfInBounds_toArray, List.set_cons_zero, List.set_cons_succ]
      refine wpAnyH_take (i := 5) (oi := ⟨some 39, _, _, _, _, _⟩) (v := .int .i64 (b + mo)) rfl (by kernel_rfl) (by kernel_rfl) (by kernel_rfl) (fun _ _ _ h => h) (.inl ⟨by kernel_rfl, fun W hW => by first | (obtain ⟨z0, z1, z2, z3, z4, z5, z6, z7, z8, z9⟩ := hW; go_simp; done) | (obtain ⟨z0, z1, z2, z3, z4, z5, z6, z7, z8, z9⟩ := hW; go_simp; omega) | (obtain ⟨z0, z1, z2, z3, z4, z5, z6, z7, z8, z9⟩ := hW; go_simp; exact IntWalk.i64_in _ (by omega)) | (obtain ⟨z0, z1, z2, z3, z4, z5, z6, z7, z8, z9⟩ := hW; go_simp; simp [*]; done)⟩) hS2 ?_
      try simp only [Act.put, List.setIfInBounds_toArray, List.set_cons_zero, List.set_cons_succ]
      refine wpAnyH_ready (rs := [6]) (by kernel_rfl) (by simp) (AllReadyH.cons rfl (fun K hK => ?_) AllReadyH.nil)
      go_simp
      refine (HTH.out _ hb2).mono ?_
      rintro e u3 ⟨rr, Z3, rfl, hg3, ht3, hf3⟩
      refine hK.out _ _ (HG7.out _ _ ((Gz.of_below hb2 (Nat.le_refl _)).trans hg3)) (fun hS3 => ?_)
      clear hK K
      try simp only [Act.put, List.setIfInBounds_toArray, List.set_cons_zero, List.set_cons_succ]
      refine wpAnyH_take (i := 7) (oi := ⟨some 41, _, _, _, _, _⟩) (v := .bool (!rr)) rfl (by kernel_rfl) (by kernel_rfl) (by kernel_rfl) (fun _ _ _ h => h) (.inl ⟨by kernel_rfl, fun W hW => by kernel_rfl⟩) hS3 ?_
      try simp only [Act.put, List.setIfInBounds_toArray, List.set_cons_zero, List.set_cons_succ]
      refine wpAnyH_done (by kernel_rfl) (calm_in ?_) _
      have hG93 : Gz (· = bm) Z1 V8 Z3 u3 := (Gz.of_below hb2 (Nat.le_refl _)).trans hg3
      have hG3 : Gz (fun q => q = bm ∨ q = W.heap.size + 4 + 1) Z V2 Z3 u3 := hG8.tail hG93 fun q _ h => .inl h
      have zl : ¬ Z1 (W.heap.size + 4 + 1) := hG8.not (by omega) (HB.out 5 (by omega))
      have hl3 : u3.heap[W.heap.size + 4 + 1]? = some (.loop (rec .busy none)) := hG93.heap hl8 zl (by omega)
      have hs3 := hG93.size
      have zl3 : ¬ Z3 (W.heap.size + 4 + 1) := hG93.not (by omega) zl
      have zt3 : ¬ Z3 (W.heap.size + 2) := hG93.not (by omega) (hG8.not (by omega) (HB.out 2 (by omega)))
      have R3 : Lies u3 (W.heap.size + 2) 4 #[.bool false] := hG93.lies (hG8.lies M2 (HB.out 2 (by omega)) (by omega)) (hG8.not (by omega) (HB.out 2 (by omega))) (by omega)
      clear hb2 hg3 hS3 HG7 HS7 HTH HBI hSs hS2 hG93
      cases rr
      · have hfx := hf3 rfl
        have HFX := Lib.hid hfx
        have x0 : u3.cell? ⟨W.heap.size + 1 + 1, 0, none⟩ = some (.bool false) := R3.cell 0
        have x1 : u3.frozen? ⟨W.heap.size + 1 + 1, 0, none⟩ = false := R3.frozen 0
        have hGs : Gz (fun q => q = W.heap.size + 2 ∨ q = W.heap.size + 4 + 1) No u3 No ((u3.setCell ⟨W.heap.size + 1 + 1, 0, none⟩ (.bool false)).putObj (W.heap.size + 4 + 1) (.loop (rec .done (some .ret)))) := ((Gz.refl _ _ _).setCell _ _ (.inr (.inl rfl))).put _ (.inr (.inr rfl))
        have hl4 : (u3.setCell ⟨W.heap.size + 1 + 1, 0, none⟩ (.bool false)).heap[W.heap.size + 4 + 1]? = some (.loop (rec .busy none)) := (Below.heap_setCell _ _ _ _ (by show W.heap.size + 4 + 1 ≠ W.heap.size + 1 + 1; omega)).trans hl3
        clear hf3 ht3 hfx
        gi_wp2
        refine ⟨hl4, .inr ⟨rfl, Z3, (hG3.more (E' := fun q => q = bm ∨ q = W.heap.size + 4 + 1 ∨ q = W.heap.size + 2) (fun q h => h.elim .inl (fun h => .inr (.inl h)))).tail hGs.any (fun q _ h => h.elim (fun h => .inr (.inr h)) (fun h => .inr (.inl h))), World.putObj_heap_same (by rw [show (u3.setCell ⟨W.heap.size + 1 + 1, 0, none⟩ (.bool false)).heap.size = u3.heap.size from by simp [World.setCell]]; omega), ?_, ?_⟩⟩
        · refine (World.cell?_of_block (World.putObj_heap_other (by show W.heap.size + 2 ≠ W.heap.size + 4 + 1; omega))).trans ?_
          exact World.cell?_setCell_same' _ _ _ (by rw [x0]; rfl)
        · obtain ⟨q, hq, hx⟩ := HFX.out
          have hy := hA.ownX hx hGs fun j hj hE => hE.elim (fun e => zt3 (e ▸ hj)) (fun e => zl3 (e ▸ hj))
          exact ⟨(ofEL (r.drop (i + 1))).reverse ++ q, by rw [← List.append_assoc]; exact hq, by rw [← List.append_assoc]; exact hy⟩
      · have htx := ht3 rfl
        have hGs : Gz (· = W.heap.size + 4 + 1) No u3 No (u3.putObj (W.heap.size + 4 + 1) (.loop (rec .ready none))) := (Gz.refl _ _ _).put _ (.inr rfl)
        have HTX := Lib.hid htx
        clear hf3 ht3 htx
        gi_wp2
        refine ⟨hl3, .inl ⟨rfl, Z3, hG3.tail hGs.any (fun q _ h => .inr h), World.putObj_heap_same (by omega), ?_, ?_⟩⟩
        · have hm3 := HTX.out.1
          rw [HTI.out, keyCL_drop C r (b + mo) i hi', ← HTI.out] at hm3
          have hsz : N + sizeEL (r.drop (i + 1)) + sizeE (.node tk tn ts tl) = N + sizeEL (r.drop i) := by rw [sizeEL_drop r i hi', ← HTI.out]; omega
          rw [hsz] at hm3
          exact hm3.heap (hGs.same bm hm3.lt (fun h => h) (by show bm ≠ _; omega))
        · have := HTX.out.2
          rw [HPR.out] at this
          exact hA.own this hGs fun k hk e => zl3 (e ▸ hk)
    -- behind the first loop
    rintro e U ⟨hv, hU⟩
    refine ⟨hv, ?_⟩
    rcases hU with hU | hU
    · rw [hJ1] at hU
      obtain ⟨Z1, hG, hlU, hmapU, hJU⟩ := hU
      refine .inl ⟨hlU, ?_⟩
      simp only [Exit.inBlock, Exit.then]
      refine hK1 _ _ ?_
      have hltU := (Array.getElem?_eq_some_iff.1 hlU).1
      obtain ⟨Ua, hUa⟩ : ∃ Ua, Ua = U.putObj (W.heap.size + 4 + 1) (.loop (rec .exhausted none)) := ⟨_, rfl⟩
      have hGo : Gz (· = W.heap.size + 4 + 1) No U No Ua := by rw [hUa]; exact (Gz.refl _ _ _).put _ (.inr rfl)
      have hGa : Gz (fun q => q = bm ∨ q = W.heap.size + 4 + 1) Z V2 Z1 Ua := hG.tail hGo.any (fun q _ h => .inr h)
      have hzl : ¬ Z1 (W.heap.size + 4 + 1) := hG.not (by omega) (HB.out 5 (by omega))
      have hJa : J (pre ++ (ofEL r).reverse) Z1 Ua := by
        have := hA.own hJU hGo fun q hz e => hzl (e ▸ hz)
        simpa using this
      have hma : MapIs Ua bm (N + sizeEL r) (keyCL C r (b + mo)) := by
        have := hmapU.heap (hGo.same bm hmapU.lt (fun h => h) (by omega))
        simpa using this
      have hda : Ua.heap[W.heap.size + 4]? = some (.deferred (some [])) := hGa.heap hd2 (HB.out 4 (by omega)) (by omega)
      have N0 : Lies Ua _ _ _ := hGa.lies M0 (HB.out 0 (by omega)) (by omega)
      have N1 : Lies Ua _ _ _ := hGa.lies M1 (HB.out 1 (by omega)) (by omega)
      have N2 : Lies Ua _ _ _ := hGa.lies M2 (HB.out 2 (by omega)) (by omega)
      have hGWa : Gz (· = bm) Z W Z1 Ua := hG2.any.more (fun _ h => h.elim) |>.tail hGa fun q hq hE => hE.elim id (fun e => by omega)
      rw [← hUa]
      clear hUa hGo hJU hmapU hJ1 hJx1 hd2 M0 M1 M2 M3 hrec hlU
      have hbb : -4611686018427387904 ≤ b ∧ b ≤ 4611686018427387904 := by
        have := H.out.b0
        have := H.out.b1
        omega
      have HBI : Hid (∀ Xw, Calls Try.prog 26 #[.agg #[.int .i64 k, .int .i64 n, .string s, .slice (some ⟨g, o, none⟩) (m + 1) c]] Xw fun e w' => e = .returned (.int .i64 mo) ∧ Below Xw.heap.size Xw w') := Lib.hid fun Xw => by rw [HMO.out]; exact ubinders_any k n s _ _ _ Xw
      obtain ⟨tn, htn⟩ : ∃ tn, tn = toldN k n := ⟨_, rfl⟩
      have htn8 : tn ≤ 8 := by rw [htn, toldN]; omega
      have HTL : Hid (∀ Xw, Calls Try.prog 34 #[.agg #[.int .i64 k, .int .i64 n, .string s, .slice (some ⟨g, o, none⟩) (m + 1) c]] Xw fun e w' => e = .returned (.int .i64 tn) ∧ Below Xw.heap.size Xw w') := Lib.hid fun Xw => by rw [htn]; exact told_any k n s _ _ _ Xw
      have HTN := Lib.hid htn
      clear htn
      obtain ⟨C1, hC1⟩ : ∃ C1, C1 = keyCL C r (b + mo) := ⟨_, rfl⟩
      rw [← hC1] at hma
      have HC1 := Lib.hid hC1
      clear hC1
      have hcM := hGWa.cell H.out.held.m (HOM.out M (.inl rfl)).1 (HOM.out M (.inl rfl)).2
      have HS9 : Hid (∀ V', Below Ua.heap.size Ua V' → (fun V' : World => (V'.cell? ⟨M, 0, none⟩ = some (.map (some bm)) ∧ V'.cell? ⟨W.heap.size + 1, 0, none⟩ = some (.int .i64 b) ∧ V'.cell? ⟨W.heap.size, 0, none⟩ = some (.int .i64 k) ∧ V'.cell? ⟨W.heap.size, 1, none⟩ = some (.int .i64 n) ∧ V'.cell? ⟨W.heap.size, 2, none⟩ = some (.string s) ∧ V'.cell? ⟨W.heap.size, 3, none⟩ = some (.slice (some ⟨g, o, none⟩) (m + 1) c))) V') := Lib.hid fun V' hb => by
        have Q0 := N0.below hb N0.lt
        have Q1 := N1.below hb N1.lt
        exact ⟨(hb.cell (p := ⟨M, 0, none⟩) (World.block_lt_of_cell? _ _ hcM)).trans hcM, Q1.cell 0, Q0.cell 0, Q0.cell 1, Q0.cell 2, Q0.cell 3⟩
      have HPL : Hid (∀ V', Below Ua.heap.size Ua V' → Calls Try.prog 33 #[.map (some bm), .int .i64 b, .int .i64 tn] V' fun e w' => ∃ Av cv, e = .returned (.slice Av tn cv) ∧ w'.ownsRow V'.heap.size 3 1 (.slice Av tn cv) tn (vI (rowC C1 b tn)) ∧ Below V'.heap.size V' w') := Lib.hid fun V' hb =>
        (places_any bm _ C1 b tn V' (hma.below hb hma.lt) htn8 hbb.1 hbb.2).mono fun e w' hh => by
          obtain ⟨v, h1, h2, h3⟩ := hh
          obtain ⟨Av, cv, rfl, _⟩ := ownsRow_slice h2
          exact ⟨Av, cv, h1, h2, h3⟩
      gi_upto_region 9 with fail
      gi_cut [10] from 75 (fun v wx => ∃ gb Av cv, v = .pointer (some ⟨gb, 0, none⟩) ∧ Ua.heap.size ≤ gb ∧ Lies wx gb 35 #[.slice Av tn cv] ∧ wx.ownsRow Ua.heap.size 3 1 (.slice Av tn cv) tn (vI (rowC C1 b tn)) ∧ Below Ua.heap.size Ua wx)
      case first =>
        refine region_H_wide (S := (fun V' : World => (V'.cell? ⟨M, 0, none⟩ = some (.map (some bm)) ∧ V'.cell? ⟨W.heap.size + 1, 0, none⟩ = some (.int .i64 b) ∧ V'.cell? ⟨W.heap.size, 0, none⟩ = some (.int .i64 k) ∧ V'.cell? ⟨W.heap.size, 1, none⟩ = some (.int .i64 n) ∧ V'.cell? ⟨W.heap.size, 2, none⟩ = some (.string s) ∧ V'.cell? ⟨W.heap.size, 3, none⟩ = some (.slice (some ⟨g, o, none⟩) (m + 1) c)))) rfl (HS9.out _ (Below.refl _ _).drew) (fun hSs => ?_)
        change wpAnyH _ _ _ _ _ 7 (Array.replicate 7 false) _ _
        have hb0 : Below Ua.heap.size Ua Ua.drew := (Below.refl _ _).drew
        generalize Ua.drew = ud at hb0 hSs ⊢
        refine wpAnyH_take (i := 0) (oi := ⟨some 42, _, _, _, _, _⟩) (v := .map (some bm)) rfl (by kernel_rfl) (by kernel_rfl) (by kernel_rfl) (fun _ _ _ h => h) (.inl ⟨by kernel_rfl, fun W hW => by first | (obtain ⟨z0, z1, z2, z3, z4, z5⟩ := hW; go_simp; done) | (obtain ⟨z0, z1, z2, z3, z4, z5⟩ := hW; go_simp; omega) | (obtain ⟨z0, z1, z2, z3, z4, z5⟩ := hW; go_simp; exact IntWalk.i64_in _ (by omega)) | (obtain ⟨z0, z1, z2, z3, z4, z5⟩ := hW; go_simp; simp [*]; done)⟩) hSs ?_
        try simp only [Act.put, List.setIfInBounds_toArray, List.set_cons_zero, List.set_cons_succ]
        refine wpAnyH_take (i := 1) (oi := ⟨some 43, _, _, _, _, _⟩) (v := .int .i64 b) rfl (by kernel_rfl) (by kernel_rfl) (by kernel_rfl) (fun _ _ _ h => h) (.inl ⟨by kernel_rfl, fun W hW => by first | (obtain ⟨z0, z1, z2, z3, z4, z5⟩ := hW; go_simp; done) | (obtain ⟨z0, z1, z2, z3, z4, z5⟩ := hW; go_simp; omega) | (obtain ⟨z0, z1, z2, z3, z4, z5⟩ := hW; go_simp; exact IntWalk.i64_in _ (by omega)) | (obtain ⟨z0, z1, z2, z3, z4, z5⟩ := hW; go_simp; simp [*]; done)⟩) hSs ?_
        try simp only [Act.put, List.setIfInBounds_toArray, List.set_cons_zero, List.set_cons_succ]
        refine wpAnyH_take (i := 2) (oi := ⟨some 44, _, _, _, _, _⟩) (v := (.agg #[.int .i64 k, .int .i64 n, .string s, .slice (some ⟨g, o, none⟩) (m + 1) c])) rfl (by kernel_rfl) (by kernel_rfl) (by kernel_rfl) (fun _ _ _ h => h) (.inl ⟨by kernel_rfl, fun W hW => by first | (obtain ⟨z0, z1, z2, z3, z4, z5⟩ := hW; go_simp; done) | (obtain ⟨z0, z1, z2, z3, z4, z5⟩ := hW; go_simp; omega) | (obtain ⟨z0, z1, z2, z3, z4, z5⟩ := hW; go_simp; exact IntWalk.i64_in _ (by omega)) | (obtain ⟨z0, z1, z2, z3, z4, z5⟩ := hW; go_simp; simp [*]; done)⟩) hSs ?_
        try simp only [Act.put, List.setIfInBounds_toArray, List.set_cons_zero, List.set_cons_succ]
        refine wpAnyH_ready (rs := [3, 5]) (by kernel_rfl) (by simp) (AllReadyH.cons rfl (fun K hK => ?_) (AllReadyH.cons rfl (fun K hK => ?_) AllReadyH.nil))
        · go_simp
          refine (HTL.out _).mono ?_
          rintro e u1 ⟨rfl, hq1⟩
          have hb1 := hb0.trans (hq1.mono hb0.size)
          refine hK.out _ _ (HS9.out _ hb1) (fun hS1 => ?_)
          clear hK K
          try simp only [Act.put, List.setIfInBounds_toArray, List.set_cons_zero, List.set_cons_succ]
          refine wpAnyH_ready (rs := [4, 5]) (by kernel_rfl) (by simp) (AllReadyH.cons rfl (fun K hK => ?_) (AllReadyH.cons rfl (fun K hK => ?_) AllReadyH.nil))
          · go_simp
            refine (HPL.out _ hb1).mono ?_
            rintro e u2 ⟨Av, cv, rfl, hr2, hq2⟩
            have hb2 := hb1.trans (hq2.mono hb1.size)
            replace hr2 := ownsRow_base hr2 hb1.size
            refine hK.out _ _ (HS9.out _ hb2) (fun hS2 => ?_)
            clear hK K
            try simp only [Act.put, List.setIfInBounds_toArray, List.set_cons_zero, List.set_cons_succ]
            refine wpAnyH_ready (rs := [5]) (by kernel_rfl) (by simp) (AllReadyH.cons rfl (fun K hK => ?_) AllReadyH.nil)
            go_simp
            have Lb3 := Lies.new u2 35 #[.slice none 0 0]
            have hb3 : Below Ua.heap.size Ua (u2.alloc (.cells #[.slice none 0 0] 35)) := hb2.alloc hb2.size _
            have hz3 : Ua.heap.size ≤ u2.heap.size := hb2.size
            have hy3 : u2.heap.size < (u2.alloc (.cells #[.slice none 0 0] 35)).heap.size := by rw [World.size_alloc]; omega
            have hr3 := (hr2.alloc (.cells #[.slice none 0 0] 35))
            have hn3 : ∀ q, (Value.slice Av tn cv).ownBlock = some q → q ≠ u2.heap.size := fun q hq => Nat.ne_of_lt (hr2.lt q hq).2
            generalize u2.alloc (.cells #[.slice none 0 0] 35) = u3 at Lb3 hb3 hy3 hr3 ⊢
            generalize u2.heap.size = gb at Lb3 hz3 hy3 hn3 ⊢
            refine hK.out _ _ (HS9.out _ hb3) (fun hS3 => ?_)
            clear hK K
            try simp only [Act.put, List.setIfInBounds_toArray, List.set_cons_zero, List.set_cons_succ]
            refine wpAnyH_ready (rs := [6]) (by kernel_rfl) (by simp) (AllReadyH.cons rfl (fun K hK => ?_) AllReadyH.nil)
            have c9 : u3.cell? ⟨gb, 0, none⟩ = some (.slice none 0 0) := Lb3.cell 0
            have f9 : u3.frozen? ⟨gb, 0, none⟩ = false := Lb3.frozen 0
            obtain ⟨hx1, hx2, hx3⟩ := own_put hr3 hn3 Lb3 hb3 hz3
            go_simp
            refine hK.out _ _ (HS9.out _ hx3) (fun hS4 => ?_)
            clear hK K
            try simp only [Act.put, List.setIfInBounds_toArray, List.set_cons_zero, List.set_cons_succ]
            refine wpAnyH_done (by kernel_rfl) (calm_in ?_) _
            gi_wp2
            gi_meet
            exact ⟨gb, Av, cv, rfl, hz3, hx1, hx2, hx3⟩
          · go_simp
            have Lb5 := Lies.new u1 35 #[.slice none 0 0]
            have hb5 : Below Ua.heap.size Ua (u1.alloc (.cells #[.slice none 0 0] 35)) := hb1.alloc hb1.size _
            have hz5 : Ua.heap.size ≤ u1.heap.size := hb1.size
            have hy5 : u1.heap.size < (u1.alloc (.cells #[.slice none 0 0] 35)).heap.size := by rw [World.size_alloc]; omega
            generalize u1.alloc (.cells #[.slice none 0 0] 35) = u5 at Lb5 hb5 hy5 ⊢
            generalize u1.heap.size = gb at Lb5 hz5 hy5 ⊢
            refine hK.out _ _ (HS9.out _ hb5) (fun hS5 => ?_)
            clear hK K
            try simp only [Act.put, List.setIfInBounds_toArray, List.set_cons_zero, List.set_cons_succ]
            refine wpAnyH_ready (rs := [4]) (by kernel_rfl) (by simp) (AllReadyH.cons rfl (fun K hK => ?_) AllReadyH.nil)
            go_simp
            refine (HPL.out _ hb5).mono ?_
            rintro e u6 ⟨Av, cv, rfl, hr6, hq6⟩
            have hb6 := hb5.trans (hq6.mono hb5.size)
            have hn6 : ∀ q, (Value.slice Av tn cv).ownBlock = some q → q ≠ gb := fun q hq => by have := (hr6.lt q hq).1; have := Lb5.lt; omega
            replace hr6 := ownsRow_base hr6 hb5.size
            have Lb6 := Lb5.below hq6 Lb5.lt
            refine hK.out _ _ (HS9.out _ hb6) (fun hS6 => ?_)
            clear hK K
            try simp only [Act.put, List.setIfInBounds_toArray, List.set_cons_zero, List.set_cons_succ]
            refine wpAnyH_ready (rs := [6]) (by kernel_rfl) (by simp) (AllReadyH.cons rfl (fun K hK => ?_) AllReadyH.nil)
            have c9 : u6.cell? ⟨gb, 0, none⟩ = some (.slice none 0 0) := Lb6.cell 0
            have f9 : u6.frozen? ⟨gb, 0, none⟩ = false := Lb6.frozen 0
            obtain ⟨hx1, hx2, hx3⟩ := own_put hr6 hn6 Lb6 hb6 hz5
            go_simp
            refine hK.out _ _ (HS9.out _ hx3) (fun hS7 => ?_)
            clear hK K
            try simp only [Act.put, List.setIfInBounds_toArray, List.set_cons_zero, List.set_cons_succ]
            refine wpAnyH_done (by kernel_rfl) (calm_in ?_) _
            gi_wp2
            gi_meet
            exact ⟨gb, Av, cv, rfl, hz5, hx1, hx2, hx3⟩
        · go_simp
          have Lb8 := Lies.new ud 35 #[.slice none 0 0]
          have hb8 : Below Ua.heap.size Ua (ud.alloc (.cells #[.slice none 0 0] 35)) := hb0.alloc hb0.size _
          have hz8 : Ua.heap.size ≤ ud.heap.size := hb0.size
          have hy8 : ud.heap.size < (ud.alloc (.cells #[.slice none 0 0] 35)).heap.size := by rw [World.size_alloc]; omega
          generalize ud.alloc (.cells #[.slice none 0 0] 35) = u8 at Lb8 hb8 hy8 ⊢
          generalize ud.heap.size = gb at Lb8 hz8 hy8 ⊢
          refine hK.out _ _ (HS9.out _ hb8) (fun hS8 => ?_)
          clear hK K
          try simp only [Act.put, List.setIfInBounds_toArray, List.set_cons_zero, List.set_cons_succ]
          refine wpAnyH_ready (rs := [3]) (by kernel_rfl) (by simp) (AllReadyH.cons rfl (fun K hK => ?_) AllReadyH.nil)
          go_simp
          refine (HTL.out _).mono ?_
          rintro e u9 ⟨rfl, hq9⟩
          have hb9 := hb8.trans (hq9.mono hb8.size)
          have Lb9 := Lb8.below hq9 Lb8.lt
          refine hK.out _ _ (HS9.out _ hb9) (fun hS9 => ?_)
          clear hK K
          try simp only [Act.put, List.setIfInBounds_toArray, List.set_cons_zero, List.set_cons_succ]
          refine wpAnyH_ready (rs := [4]) (by kernel_rfl) (by simp) (AllReadyH.cons rfl (fun K hK => ?_) AllReadyH.nil)
          go_simp
          refine (HPL.out _ hb9).mono ?_
          rintro e u10 ⟨Av, cv, rfl, hr10, hq10⟩
          have hb10 := hb9.trans (hq10.mono hb9.size)
          have hn10 : ∀ q, (Value.slice Av tn cv).ownBlock = some q → q ≠ gb := fun q hq => by have := (hr10.lt q hq).1; have := Lb9.lt; omega
          replace hr10 := ownsRow_base hr10 hb9.size
          have Lb10 := Lb9.below hq10 Lb9.lt
          refine hK.out _ _ (HS9.out _ hb10) (fun hS10 => ?_)
          clear hK K
          try simp only [Act.put, List.setIfInBounds_toArray, List.set_cons_zero, List.set_cons_succ]
          refine wpAnyH_ready (rs := [6]) (by kernel_rfl) (by simp) (AllReadyH.cons rfl (fun K hK => ?_) AllReadyH.nil)
          have c9 : u10.cell? ⟨gb, 0, none⟩ = some (.slice none 0 0) := Lb10.cell 0
          have f9 : u10.frozen? ⟨gb, 0, none⟩ = false := Lb10.frozen 0
          obtain ⟨hx1, hx2, hx3⟩ := own_put hr10 hn10 Lb10 hb10 hz8
          go_simp
          refine hK.out _ _ (HS9.out _ hx3) (fun hS11 => ?_)
          clear hK K
          try simp only [Act.put, List.setIfInBounds_toArray, List.set_cons_zero, List.set_cons_succ]
          refine wpAnyH_done (by kernel_rfl) (calm_in ?_) _
          gi_wp2
          gi_meet
          exact ⟨gb, Av, cv, rfl, hz8, hx1, hx2, hx3⟩
      case rest =>
        obtain ⟨gb, Av, cv, rfl, hgb, Lb, hrow, hbU⟩ := hcut
        have hGc : Gz No No Ua No wc := Gz.of_below hbU (Nat.le_refl _)
        have hcs := hbU.size
        have hGWc : Gz (· = bm) Z W Z1 wc := hGWa.trans (hGc.any.more (fun _ h => h.elim))
        have hJc : J (pre ++ (ofEL r).reverse) Z1 wc := hA.own hJa hGc fun _ _ h => h
        have hmc : MapIs wc bm (N + sizeEL r) C1 := hma.below hbU hma.lt
        have O0 : Lies wc _ _ _ := N0.below hbU N0.lt
        have O1 : Lies wc _ _ _ := N1.below hbU N1.lt
        have O2 : Lies wc _ _ _ := N2.below hbU N2.lt
        have hdc : wc.heap[W.heap.size + 4]? = some (.deferred (some [])) := (hbU.block _ (Array.getElem?_eq_some_iff.1 hda).1).trans hda
        have hltW : W.heap.size + 5 < Ua.heap.size := by have := hGa.size; omega
        have hZq : ∀ q, q < Ua.heap.size → W.heap.size ≤ q → q ≤ W.heap.size + 5 → ¬ Z1 q := fun q _ h1 h2 => hGa.not (by omega) (by have := HB.out (q - W.heap.size) (by omega); rwa [show W.heap.size + (q - W.heap.size) = q from by omega] at this)
        have HZQ := Lib.hid hZq
        have hbZ : ∀ q, q < W.heap.size → ¬ Z q → ¬ Z1 q := fun q hq hz => hGWa.not hq hz
        have zb : ∀ q, Ua.heap.size ≤ q → ¬ Z1 q := fun q hq h => by have := hA.lt _ _ _ hJa _ h; omega
        have HZB := Lib.hid zb
        obtain ⟨g', o', A0', c0', ⟨hAs', _⟩, d0, d1, d2, d3, hI0⟩ := ELIn.at_ (t0 :: r) HL.out 0 (by simp)
        injection hAs' with e1
        injection e1 with e1 e2
        subst e1 e2
        simp only [List.getElem_cons_zero, Nat.zero_mul, Nat.add_zero] at d0 d1 d2 d3 hI0
        obtain ⟨k0, n0, s0, l0⟩ := t0
        simp only [Te.kind, Te.n, Te.name, Te.parts] at d0 d1 d2 d3
        have hXg' := (HOX.out g hXg).2
        replace d0 := hGWc.cell d0 hXg'.1 hXg'.2
        replace d1 := hGWc.cell d1 hXg'.1 hXg'.2
        replace d2 := hGWc.cell d2 hXg'.1 hXg'.2
        replace d3 := hGWc.cell d3 hXg'.1 hXg'.2
        have hcT := hGWc.cell H.out.held.t (HOM.out T (.inr (.inl rfl))).1 (HOM.out T (.inr (.inl rfl))).2
        have HG10 : Hid (∀ V' Z3, Gz (· = bm) Z1 wc Z3 V' → (fun V' : World => (V'.cell? ⟨T, 0, none⟩ = some (.func (.func 31) #[] #[.pointer (some ⟨M, 0, none⟩), .pointer (some ⟨T, 0, none⟩), .pointer (some ⟨Yb, 0, none⟩)]) ∧ V'.cell? ⟨W.heap.size, 0, none⟩ = some (.int .i64 k) ∧ V'.cell? ⟨W.heap.size, 1, none⟩ = some (.int .i64 n) ∧ V'.cell? ⟨W.heap.size, 2, none⟩ = some (.string s) ∧ V'.cell? ⟨W.heap.size, 3, none⟩ = some (.slice (some ⟨g, o, none⟩) (m + 1) c) ∧ V'.cell? ⟨W.heap.size + 1, 0, none⟩ = some (.int .i64 b) ∧ V'.cell? ⟨g, o, none⟩ = some (.int .i64 k0) ∧ V'.cell? ⟨g, o + 1, none⟩ = some (.int .i64 n0) ∧ V'.cell? ⟨g, o + 2, none⟩ = some (.string s0) ∧ V'.cell? ⟨g, o + 3, none⟩ = some (.slice A0' l0.length (capF l0.length c0')))) V') := Lib.hid fun V' Z3 hG9 => by
          have zt := HOM.out T (.inr (.inl rfl))
          have Q0 : Lies V' _ _ _ := hG9.lies O0 (HZQ.out _ (by omega) (by omega) (by omega)) (by omega)
          have Q1 : Lies V' _ _ _ := hG9.lies O1 (HZQ.out _ (by omega) (by omega) (by omega)) (by omega)
          have hg1 := hbZ g hgW hXg'.1
          exact ⟨hG9.cell hcT (hbZ T hTL zt.1) zt.2, Q0.cell 0, Q0.cell 1, Q0.cell 2, Q0.cell 3, Q1.cell 0, hG9.cell d0 hg1 hXg'.2, hG9.cell d1 hg1 hXg'.2, hG9.cell d2 hg1 hXg'.2, hG9.cell d3 hg1 hXg'.2⟩
        have HS10 : Hid (∀ V', Below wc.heap.size wc V' → (fun V' : World => (V'.cell? ⟨T, 0, none⟩ = some (.func (.func 31) #[] #[.pointer (some ⟨M, 0, none⟩), .pointer (some ⟨T, 0, none⟩), .pointer (some ⟨Yb, 0, none⟩)]) ∧ V'.cell? ⟨W.heap.size, 0, none⟩ = some (.int .i64 k) ∧ V'.cell? ⟨W.heap.size, 1, none⟩ = some (.int .i64 n) ∧ V'.cell? ⟨W.heap.size, 2, none⟩ = some (.string s) ∧ V'.cell? ⟨W.heap.size, 3, none⟩ = some (.slice (some ⟨g, o, none⟩) (m + 1) c) ∧ V'.cell? ⟨W.heap.size + 1, 0, none⟩ = some (.int .i64 b) ∧ V'.cell? ⟨g, o, none⟩ = some (.int .i64 k0) ∧ V'.cell? ⟨g, o + 1, none⟩ = some (.int .i64 n0) ∧ V'.cell? ⟨g, o + 2, none⟩ = some (.string s0) ∧ V'.cell? ⟨g, o + 3, none⟩ = some (.slice A0' l0.length (capF l0.length c0')))) V') := Lib.hid fun V' hb => HG10.out V' Z1 (Gz.of_below hb (Nat.le_refl _))
        have hpf := H.out.pref
        rw [of_rev] at hpf
        have HPF := Lib.hid hpf
        have HTH : Hid (∀ Xw, Below wc.heap.size wc Xw → Calls Try.prog 31 #[.agg #[.int .i64 k0, .int .i64 n0, .string s0, .slice A0' l0.length (capF l0.length c0')], .int .i64 (b + mo), .pointer (some ⟨M, 0, none⟩), .pointer (some ⟨T, 0, none⟩), .pointer (some ⟨Yb, 0, none⟩)] Xw
            (ThrPost l M T Yb bm full J Jx (.node k0 n0 s0 l0) (b + mo) (N + sizeEL r) C1 (pre ++ (ofEL r).reverse) Z1 Xw)) := Lib.hid fun Xw hX => by
          have hGX : Gz No No wc No Xw := Gz.of_below hX (Nat.le_refl _)
          have hGWX : Gz (· = bm) Z W Z1 Xw := hGWc.trans (hGX.any.more (fun _ h => h.elim))
          have hb0 := H.out.b0
          have hb1 := H.out.b1
          have hsz := H.out.siz
          have hdp := H.out.dep
          have htm := H.out.tame
          rw [depthE, depthEL] at hdp
          rw [tameE, tameEL] at htm
          rw [sizeE, sizeEL] at hsz
          exact ih (.node k0 n0 s0 l0) A0' c0' (b + mo) _ _ _ Z1 Xw
            { dep := by omega, dep4 := by have := H.out.dep4; omega, siz := by omega, tame := htm.2.2.1, b0 := by omega, b1 := by omega
              lies := EIn.gz _ hI0 hGWX fun g hg => (HOX.out g hg).2
              mapi := hmc.heap (hGX.same bm hmc.lt (fun h => h) (fun h => h))
              cbd := by rw [HC1.out]; exact keyCL_bound H.out.cbd _ _
              held := H.out.held.gz hGWX HOM.out
              asks := hA.own hJc hGX fun _ _ h => h
              offX := fun g hg => ⟨by have := (HOX.out g hg).1; have := hGWX.size; omega, hbZ g (HOX.out g hg).1 (HOX.out g hg).2.1, (HOX.out g hg).2.2⟩
              offM := fun q hq => ⟨hbZ q (by omega) (HOM.out q hq).1, (HOM.out q hq).2⟩
              offB := hbZ bm hbm H.out.offB
              pref := by
                have := HPF.out
                rw [← List.append_assoc, ← List.append_assoc] at this
                exact (List.prefix_append _ _).trans this }
        clear hma N0 N1 N2 hda hbU hGc hGWa hGa hJa hZq zb HS9 HPL hI0 d0 d1 d2 d3 hcT hcM hmc hpf
        gi_upto_region 10 with fail
        refine region_H_wide (S := (fun V' : World => (V'.cell? ⟨T, 0, none⟩ = some (.func (.func 31) #[] #[.pointer (some ⟨M, 0, none⟩), .pointer (some ⟨T, 0, none⟩), .pointer (some ⟨Yb, 0, none⟩)]) ∧ V'.cell? ⟨W.heap.size, 0, none⟩ = some (.int .i64 k) ∧ V'.cell? ⟨W.heap.size, 1, none⟩ = some (.int .i64 n) ∧ V'.cell? ⟨W.heap.size, 2, none⟩ = some (.string s) ∧ V'.cell? ⟨W.heap.size, 3, none⟩ = some (.slice (some ⟨g, o, none⟩) (m + 1) c) ∧ V'.cell? ⟨W.heap.size + 1, 0, none⟩ = some (.int .i64 b) ∧ V'.cell? ⟨g, o, none⟩ = some (.int .i64 k0) ∧ V'.cell? ⟨g, o + 1, none⟩ = some (.int .i64 n0) ∧ V'.cell? ⟨g, o + 2, none⟩ = some (.string s0) ∧ V'.cell? ⟨g, o + 3, none⟩ = some (.slice A0' l0.length (capF l0.length c0'))))) rfl (HS10.out _ (Below.refl _ _).drew) (fun hSs => ?_)
        change wpAnyH _ _ _ _ _ 11 (Array.replicate 11 false) _ _
        refine wpAnyH_take (i := 0) (oi := ⟨some 47, _, _, _, _, _⟩) (v := .func (.func 31) #[] #[.pointer (some ⟨M, 0, none⟩), .pointer (some ⟨T, 0, none⟩), .pointer (some ⟨Yb, 0, none⟩)]) rfl (by kernel_rfl) (by kernel_rfl) (by kernel_rfl) (fun _ _ _ h => h) (.inl ⟨by kernel_rfl, fun W hW => by first | (obtain ⟨z0, z1, z2, z3, z4, z5, z6, z7, z8, z9⟩ := hW; go_simp; done) | (obtain ⟨z0, z1, z2, z3, z4, z5, z6, z7, z8, z9⟩ := hW; go_simp; omega) | (obtain ⟨z0, z1, z2, z3, z4, z5, z6, z7, z8, z9⟩ := hW; go_simp; exact IntWalk.i64_in _ (by omega)) | (obtain ⟨z0, z1, z2, z3, z4, z5, z6, z7, z8, z9⟩ := hW; go_simp; simp [*]; done)⟩) hSs ?_
        try simp only [Act.put, List.setIfInBounds_toArray, List.set_cons_zero, List.set_cons_succ]
        refine wpAnyH_take (i := 1) (oi := ⟨some 48, _, _, _, _, _⟩) (v := .pointer (some ⟨W.heap.size, 3, none⟩)) rfl (by kernel_rfl) (by kernel_rfl) (by kernel_rfl) (fun _ _ _ h => h) (.inl ⟨by kernel_rfl, fun W hW => by first | (obtain ⟨z0, z1, z2, z3, z4, z5, z6, z7, z8, z9⟩ := hW; go_simp; done) | (obtain ⟨z0, z1, z2, z3, z4, z5, z6, z7, z8, z9⟩ := hW; go_simp; omega) | (obtain ⟨z0, z1, z2, z3, z4, z5, z6, z7, z8, z9⟩ := hW; go_simp; exact IntWalk.i64_in _ (by omega)) | (obtain ⟨z0, z1, z2, z3, z4, z5, z6, z7, z8, z9⟩ := hW; go_simp; simp [*]; done)⟩) hSs ?_
        try simp only [Act.put, List.setIfInBounds_toArray, List.set_cons_zero, List.set_cons_succ]
        refine wpAnyH_take (i := 2) (oi := ⟨some 49, _, _, _, _, _⟩) (v := .slice (some ⟨g, o, none⟩) (m + 1) c) rfl (by kernel_rfl) (by kernel_rfl) (by kernel_rfl) (fun _ _ _ h => h) (.inl ⟨by kernel_rfl, fun W hW => by first | (obtain ⟨z0, z1, z2, z3, z4, z5, z6, z7, z8, z9⟩ := hW; go_simp; done) | (obtain ⟨z0, z1, z2, z3, z4, z5, z6, z7, z8, z9⟩ := hW; go_simp; omega) | (obtain ⟨z0, z1, z2, z3, z4, z5, z6, z7, z8, z9⟩ := hW; go_simp; exact IntWalk.i64_in _ (by omega)) | (obtain ⟨z0, z1, z2, z3, z4, z5, z6, z7, z8, z9⟩ := hW; go_simp; simp [*]; done)⟩) hSs ?_
        try simp only [Act.put, List.setIfInBounds_toArray, List.set_cons_zero, List.set_cons_succ]
        refine wpAnyH_take (i := 3) (oi := ⟨some 50, _, _, _, _, _⟩) (v := .pointer (some ⟨g, o, none⟩)) rfl (by kernel_rfl) (by kernel_rfl) (by kernel_rfl) (fun _ _ _ h => h) (.inl ⟨by kernel_rfl, fun W hW => by first | (obtain ⟨z0, z1, z2, z3, z4, z5, z6, z7, z8, z9⟩ := hW; go_simp; done) | (obtain ⟨z0, z1, z2, z3, z4, z5, z6, z7, z8, z9⟩ := hW; go_simp; omega) | (obtain ⟨z0, z1, z2, z3, z4, z5, z6, z7, z8, z9⟩ := hW; go_simp; exact IntWalk.i64_in _ (by omega)) | (obtain ⟨z0, z1, z2, z3, z4, z5, z6, z7, z8, z9⟩ := hW; go_simp; simp [*]; done)⟩) hSs ?_
        try simp only [Act.put, List.setIfInBounds_toArray, List.set_cons_zero, List.set_cons_succ]
        refine wpAnyH_take (i := 4) (oi := ⟨some 51, _, _, _, _, _⟩) (v := (.agg #[.int .i64 k0, .int .i64 n0, .string s0, .slice A0' l0.length (capF l0.length c0')])) rfl (by kernel_rfl) (by kernel_rfl) (by kernel_rfl) (fun _ _ _ h => h) (.inl ⟨by kernel_rfl, fun W hW => by first | (obtain ⟨z0, z1, z2, z3, z4, z5, z6, z7, z8, z9⟩ := hW; go_simp; done) | (obtain ⟨z0, z1, z2, z3, z4, z5, z6, z7, z8, z9⟩ := hW; go_simp; omega) | (obtain ⟨z0, z1, z2, z3, z4, z5, z6, z7, z8, z9⟩ := hW; go_simp; exact IntWalk.i64_in _ (by omega)) | (obtain ⟨z0, z1, z2, z3, z4, z5, z6, z7, z8, z9⟩ := hW; go_simp; simp [*]; done)⟩) hSs ?_
        try simp only [Act.put, List.setIfInBounds_toArray, List.set_cons_zero, List.set_cons_succ]
        refine wpAnyH_take (i := 5) (oi := ⟨some 52, _, _, _, _, _⟩) (v := .int .i64 b) rfl (by kernel_rfl) (by kernel_rfl) (by kernel_rfl) (fun _ _ _ h => h) (.inl ⟨by kernel_rfl, fun W hW => by first | (obtain ⟨z0, z1, z2, z3, z4, z5, z6, z7, z8, z9⟩ := hW; go_simp; done) | (obtain ⟨z0, z1, z2, z3, z4, z5, z6, z7, z8, z9⟩ := hW; go_simp; omega) | (obtain ⟨z0, z1, z2, z3, z4, z5, z6, z7, z8, z9⟩ := hW; go_simp; exact IntWalk.i64_in _ (by omega)) | (obtain ⟨z0, z1, z2, z3, z4, z5, z6, z7, z8, z9⟩ := hW; go_simp; simp [*]; done)⟩) hSs ?_
        try simp only [Act.put, List.setIfInBounds_toArray, List.set_cons_zero, List.set_cons_succ]
        refine wpAnyH_take (i := 6) (oi := ⟨some 53, _, _, _, _, _⟩) (v := (.agg #[.int .i64 k, .int .i64 n, .string s, .slice (some ⟨g, o, none⟩) (m + 1) c])) rfl (by kernel_rfl) (by kernel_rfl) (by kernel_rfl) (fun _ _ _ h => h) (.inl ⟨by kernel_rfl, fun W hW => by first | (obtain ⟨z0, z1, z2, z3, z4, z5, z6, z7, z8, z9⟩ := hW; go_simp; done) | (obtain ⟨z0, z1, z2, z3, z4, z5, z6, z7, z8, z9⟩ := hW; go_simp; omega) | (obtain ⟨z0, z1, z2, z3, z4, z5, z6, z7, z8, z9⟩ := hW; go_simp; exact IntWalk.i64_in _ (by omega)) | (obtain ⟨z0, z1, z2, z3, z4, z5, z6, z7, z8, z9⟩ := hW; go_simp; simp [*]; done)⟩) hSs ?_
        try simp only [Act.put, List.setIfInBounds_toArray, List.set_cons_zero, List.set_cons_succ]
        refine wpAnyH_ready (rs := [7]) (by kernel_rfl) (by simp) (AllReadyH.cons rfl (fun K hK => ?_) AllReadyH.nil)
        go_simp
        refine (HBI.out _).mono ?_
        rintro e u2 ⟨rfl, hq2⟩
        have hb2 : Below wc.heap.size wc u2 := (Below.refl _ wc).drew.trans hq2
        refine hK.out _ _ (HS10.out _ hb2) (fun hS2 => ?_)
        clear hK K
        try simp only [Act.put, List.setIfInBounds_toArray, List.set_cons_zero, List.set_cons_succ]
        refine wpAnyH_take (i := 8) (oi := ⟨some 55, _, _, _, _, _⟩) (v := .int .i64 (b + mo)) rfl (by kernel_rfl) (by kernel_rfl) (by kernel_rfl) (fun _ _ _ h => h) (.inl ⟨by kernel_rfl, fun W hW => by first | (obtain ⟨z0, z1, z2, z3, z4, z5, z6, z7, z8, z9⟩ := hW; go_simp; done) | (obtain ⟨z0, z1, z2, z3, z4, z5, z6, z7, z8, z9⟩ := hW; go_simp; omega) | (obtain ⟨z0, z1, z2, z3, z4, z5, z6, z7, z8, z9⟩ := hW; go_simp; exact IntWalk.i64_in _ (by omega)) | (obtain ⟨z0, z1, z2, z3, z4, z5, z6, z7, z8, z9⟩ := hW; go_simp; simp [*]; done)⟩) hS2 ?_
        try simp only [Act.put, List.setIfInBounds_toArray, List.set_cons_zero, List.set_cons_succ]
        refine wpAnyH_ready (rs := [9]) (by kernel_rfl) (by simp) (AllReadyH.cons rfl (fun K hK => ?_) AllReadyH.nil)
        go_simp
        refine (HTH.out _ hb2).mono ?_
        rintro e u3 ⟨rr, Z3, rfl, hg3, ht3, hf3⟩
        refine hK.out _ _ (HG10.out _ _ ((Gz.of_below hb2 (Nat.le_refl _)).trans hg3)) (fun hS3 => ?_)
        clear hK K
        try simp only [Act.put, List.setIfInBounds_toArray, List.set_cons_zero, List.set_cons_succ]
        refine wpAnyH_take (i := 10) (oi := ⟨some 57, _, _, _, _, _⟩) (v := .bool (!rr)) rfl (by kernel_rfl) (by kernel_rfl) (by kernel_rfl) (fun _ _ _ h => h) (.inl ⟨by kernel_rfl, fun W hW => by kernel_rfl⟩) hS3 ?_
        try simp only [Act.put, List.setIfInBounds_toArray, List.set_cons_zero, List.set_cons_succ]
        refine wpAnyH_done (by kernel_rfl) (calm_in ?_) _
        have hG93 : Gz (· = bm) Z1 wc Z3 u3 := (Gz.of_below hb2 (Nat.le_refl _)).trans hg3
        have hG3 : Gz (· = bm) Z W Z3 u3 := hGWc.trans hG93
        have hs3 := hG93.size
        have zq3 : ∀ q, q < wc.heap.size → W.heap.size ≤ q → q ≤ W.heap.size + 5 ∨ Ua.heap.size ≤ q → ¬ Z3 q := fun q h1 h2 h3 => hG93.not h1 (h3.elim (fun h => HZQ.out q (by omega) h2 h) (HZB.out q))
        have R0 : Lies u3 _ _ _ := hG93.lies O0 (HZQ.out _ (by omega) (by omega) (by omega)) (by omega)
        have R1 : Lies u3 _ _ _ := hG93.lies O1 (HZQ.out _ (by omega) (by omega) (by omega)) (by omega)
        have R2 : Lies u3 _ _ _ := hG93.lies O2 (HZQ.out _ (by omega) (by omega) (by omega)) (by omega)
        have hdd3 : u3.heap[W.heap.size + 4]? = some (.deferred (some [])) := hG93.heap hdc (HZQ.out _ (by omega) (by omega) (by omega)) (by omega)
        clear hb2 hg3 hS3 HG10 HS10 HTH hSs hS2
        cases rr
        · have HFX := Lib.hid (hf3 rfl)
          have x0 : u3.cell? ⟨W.heap.size + 1 + 1, 0, none⟩ = some (.bool false) := R2.cell 0
          have x1 : u3.frozen? ⟨W.heap.size + 1 + 1, 0, none⟩ = false := R2.frozen 0
          have hGs : Gz (fun q => q = W.heap.size + 2 ∨ q = W.heap.size + 4) No u3 No ((u3.setCell ⟨W.heap.size + 1 + 1, 0, none⟩ (.bool false)).putObj (W.heap.size + 4) (.deferred none)) := ((Gz.refl _ _ _).setCell _ _ (.inr (.inl rfl))).put _ (.inr (.inr rfl))
          have hcc : ((u3.setCell ⟨W.heap.size + 1 + 1, 0, none⟩ (.bool false)).putObj (W.heap.size + 4) (.deferred none)).cell? ⟨W.heap.size + 1 + 1, 0, none⟩ = some (.bool false) := by
            refine (World.cell?_of_block (World.putObj_heap_other (by show W.heap.size + 1 + 1 ≠ W.heap.size + 4; omega))).trans ?_
            exact World.cell?_setCell_same' _ _ _ (by rw [x0]; rfl)
          have hd4 : (u3.setCell ⟨W.heap.size + 1 + 1, 0, none⟩ (.bool false)).heap[W.heap.size + 4]? = some (.deferred (some [])) := (Below.heap_setCell _ _ _ _ (by show W.heap.size + 4 ≠ W.heap.size + 1 + 1; omega)).trans hdd3
          clear hf3 ht3
          gi_wp2
          refine ends1 (v := .bool false) hd4 (results_bool rfl _ (g := W.heap.size + 1 + 1) (r := false) rfl hcc) ?_
          rw [HR.out]
          obtain ⟨q, hq, hx⟩ := HFX.out
          have hy := hA.ownX hx hGs fun j hj hE => hE.elim (fun e => zq3 (W.heap.size + 2) (by omega) (by omega) (.inl (by omega)) (e ▸ hj)) (fun e => zq3 (W.heap.size + 4) (by omega) (by omega) (.inl (by omega)) (e ▸ hj))
          exact ⟨false, Z3, rfl, hG3.tail hGs.any fun q hq hE => by omega, (fun h => by cases h), fun _ => ⟨(ofEL r).reverse ++ q, by rw [← List.append_assoc]; exact hq, by rw [← List.append_assoc]; exact hy⟩⟩
        · have HTX := Lib.hid (ht3 rfl)
          clear hf3 ht3
          obtain ⟨C2, hC2⟩ : ∃ C2, C2 = keyC C1 (.node k0 n0 s0 l0) (b + mo) := ⟨_, rfl⟩
          have HC2 := Lib.hid hC2
          have hm3 : MapIs u3 bm (N + sizeEL r + sizeE (.node k0 n0 s0 l0)) C2 := by rw [hC2]; exact HTX.out.1
          have hJ3 := HTX.out.2
          clear hC2
          have zM := HOM.out M (.inl rfl)
          have zY := HOM.out Yb (.inr (.inr rfl))
          have hcM := hG3.cell H.out.held.m zM.1 zM.2
          have hcY := hG3.cell H.out.held.y zY.1 zY.2
          have hltb : gb < wc.heap.size := Lb.lt
          have Lb3 : Lies u3 gb 35 #[.slice Av tn cv] := hG93.lies Lb (HZB.out _ hgb) (by omega)
          have hC1b : ∀ v, 0 ≤ C1 v ∧ C1 v ≤ (N + sizeEL r : Nat) := by rw [HC1.out]; exact keyCL_bound H.out.cbd _ _
          have hC2b : ∀ v, 0 ≤ C2 v ∧ C2 v ≤ (N + sizeEL r + sizeE (.node k0 n0 s0 l0) : Nat) := by rw [HC2.out]; exact keyC_bound hC1b _ _
          have hNN : N + sizeEL r + sizeE (.node k0 n0 s0 l0) ≤ 1000000000000 := by
            have := H.out.siz
            rw [sizeE, sizeEL] at this
            omega
          have HS12 : Hid (∀ V', Below u3.heap.size u3 V' → (fun V' : World => (V'.cell? ⟨M, 0, none⟩ = some (.map (some bm)) ∧ V'.cell? ⟨W.heap.size + 1, 0, none⟩ = some (.int .i64 b) ∧ V'.cell? ⟨W.heap.size, 0, none⟩ = some (.int .i64 k) ∧ V'.cell? ⟨W.heap.size, 1, none⟩ = some (.int .i64 n) ∧ V'.cell? ⟨W.heap.size, 2, none⟩ = some (.string s) ∧ V'.cell? ⟨W.heap.size, 3, none⟩ = some (.slice (some ⟨g, o, none⟩) (m + 1) c))) V') := Lib.hid fun V' hb => by
            have Q0 : Lies V' _ _ _ := R0.below hb R0.lt
            have Q1 : Lies V' _ _ _ := R1.below hb R1.lt
            exact ⟨(hb.cell (p := ⟨M, 0, none⟩) (World.block_lt_of_cell? _ _ hcM)).trans hcM, Q1.cell 0, Q0.cell 0, Q0.cell 1, Q0.cell 2, Q0.cell 3⟩
          have HPL : Hid (∀ V', Below u3.heap.size u3 V' → Calls Try.prog 33 #[.map (some bm), .int .i64 b, .int .i64 tn] V' fun e w' => ∃ Av cv, e = .returned (.slice Av tn cv) ∧ w'.ownsRow V'.heap.size 3 1 (.slice Av tn cv) tn (vI (rowC C2 b tn)) ∧ Below V'.heap.size V' w') := Lib.hid fun V' hb =>
            (places_any bm _ C2 b tn V' (hm3.below hb hm3.lt) htn8 hbb.1 hbb.2).mono fun e w' hh => by
              obtain ⟨v, h1, h2, h3⟩ := hh
              obtain ⟨Av, cv, rfl, _⟩ := ownsRow_slice h2
              exact ⟨Av, cv, h1, h2, h3⟩
          gi_upto_region 12 with fail
          refine region_H_wide (S := (fun V' : World => (V'.cell? ⟨M, 0, none⟩ = some (.map (some bm)) ∧ V'.cell? ⟨W.heap.size + 1, 0, none⟩ = some (.int .i64 b) ∧ V'.cell? ⟨W.heap.size, 0, none⟩ = some (.int .i64 k) ∧ V'.cell? ⟨W.heap.size, 1, none⟩ = some (.int .i64 n) ∧ V'.cell? ⟨W.heap.size, 2, none⟩ = some (.string s) ∧ V'.cell? ⟨W.heap.size, 3, none⟩ = some (.slice (some ⟨g, o, none⟩) (m + 1) c)))) rfl (HS12.out _ (Below.refl _ _).drew) (fun hSs => ?_)
          change wpAnyH _ _ _ _ _ 6 (Array.replicate 6 false) _ _
          refine wpAnyH_take (i := 0) (oi := ⟨some 58, _, _, _, _, _⟩) (v := .map (some bm)) rfl (by kernel_rfl) (by kernel_rfl) (by kernel_rfl) (fun _ _ _ h => h) (.inl ⟨by kernel_rfl, fun W hW => by first | (obtain ⟨z0, z1, z2, z3, z4, z5⟩ := hW; go_simp; done) | (obtain ⟨z0, z1, z2, z3, z4, z5⟩ := hW; go_simp; omega) | (obtain ⟨z0, z1, z2, z3, z4, z5⟩ := hW; go_simp; exact IntWalk.i64_in _ (by omega)) | (obtain ⟨z0, z1, z2, z3, z4, z5⟩ := hW; go_simp; simp [*]; done)⟩) hSs ?_
          try simp only [Act.put, List.setIfInBounds_toArray, List.set_cons_zero, List.set_cons_succ]
          refine wpAnyH_take (i := 1) (oi := ⟨some 59, _, _, _, _, _⟩) (v := .int .i64 b) rfl (by kernel_rfl) (by kernel_rfl) (by kernel_rfl) (fun _ _ _ h => h) (.inl ⟨by kernel_rfl, fun W hW => by first | (obtain ⟨z0, z1, z2, z3, z4, z5⟩ := hW; go_simp; done) | (obtain ⟨z0, z1, z2, z3, z4, z5⟩ := hW; go_simp; omega) | (obtain ⟨z0, z1, z2, z3, z4, z5⟩ := hW; go_simp; exact IntWalk.i64_in _ (by omega)) | (obtain ⟨z0, z1, z2, z3, z4, z5⟩ := hW; go_simp; simp [*]; done)⟩) hSs ?_
          try simp only [Act.put, List.setIfInBounds_toArray, List.set_cons_zero, List.set_cons_succ]
          refine wpAnyH_take (i := 2) (oi := ⟨some 60, _, _, _, _, _⟩) (v := (.agg #[.int .i64 k, .int .i64 n, .string s, .slice (some ⟨g, o, none⟩) (m + 1) c])) rfl (by kernel_rfl) (by kernel_rfl) (by kernel_rfl) (fun _ _ _ h => h) (.inl ⟨by kernel_rfl, fun W hW => by first | (obtain ⟨z0, z1, z2, z3, z4, z5⟩ := hW; go_simp; done) | (obtain ⟨z0, z1, z2, z3, z4, z5⟩ := hW; go_simp; omega) | (obtain ⟨z0, z1, z2, z3, z4, z5⟩ := hW; go_simp; exact IntWalk.i64_in _ (by omega)) | (obtain ⟨z0, z1, z2, z3, z4, z5⟩ := hW; go_simp; simp [*]; done)⟩) hSs ?_
          try simp only [Act.put, List.setIfInBounds_toArray, List.set_cons_zero, List.set_cons_succ]
          refine wpAnyH_ready (rs := [3]) (by kernel_rfl) (by simp) (AllReadyH.cons rfl (fun K hK => ?_) AllReadyH.nil)
          go_simp
          refine (HTL.out _).mono ?_
          rintro e u5 ⟨rfl, hq5⟩
          have hb5 : Below u3.heap.size u3 u5 := (Below.refl _ u3).drew.trans hq5
          refine hK.out _ _ (HS12.out _ hb5) (fun hS5 => ?_)
          clear hK K
          try simp only [Act.put, List.setIfInBounds_toArray, List.set_cons_zero, List.set_cons_succ]
          refine wpAnyH_ready (rs := [4]) (by kernel_rfl) (by simp) (AllReadyH.cons rfl (fun K hK => ?_) AllReadyH.nil)
          go_simp
          refine (HPL.out _ hb5).mono ?_
          rintro e u6 ⟨A2, c4, rfl, hr6, hq6⟩
          have hb6 := hb5.trans (hq6.mono hb5.size)
          refine hK.out _ _ (HS12.out _ hb6) (fun hS6 => ?_)
          clear hK K
          try simp only [Act.put, List.setIfInBounds_toArray, List.set_cons_zero, List.set_cons_succ]
          refine wpAnyH_ready (rs := [5]) (by kernel_rfl) (by simp) (AllReadyH.cons rfl (fun K hK => ?_) AllReadyH.nil)
          go_simp
          refine (backI_any A2 tn c4 _).mono ?_
          rintro e u7 ⟨rfl, rfl⟩
          refine hK.out _ _ (HS12.out _ (hb6.alloc hb6.size _)) (fun hS7 => ?_)
          clear hK K hS7 hS6 hS5 hSs
          try simp only [Act.put, List.setIfInBounds_toArray, List.set_cons_zero, List.set_cons_succ]
          refine wpAnyH_done (by kernel_rfl) (calm_in ?_) _
          obtain ⟨Ub, hUb⟩ : ∃ Ub, Ub = u6.alloc (.cells #[.slice A2 tn c4] 35) := ⟨_, rfl⟩
          have hbx := hb6.size
          have Lx2 : Lies Ub u6.heap.size 35 #[.slice A2 tn c4] := by rw [hUb]; exact Lies.new _ _ _
          have hbUb : Below u3.heap.size u3 Ub := by rw [hUb]; exact hb6.alloc hb6.size _
          have hrw : Ub.ownsRow u3.heap.size 3 1 (.slice A2 tn c4) tn (vI (rowC C2 b tn)) := by rw [hUb]; exact (ownsRow_base hr6 hb5.size).alloc _
          have hsb : Ub.heap.size = u6.heap.size + 1 := by rw [hUb]; simp
          rw [← hUb]
          generalize hbxn : u6.heap.size = bx2 at hsb Lx2 hbx ⊢
          clear hUb hb6 hr6 hb5 HS12 HPL hbxn
          have hGb : Gz No No u3 No Ub := Gz.of_below hbUb (Nat.le_refl _)
          gi_wp2
          rename_i K2 hK2 _
          refine range_rec rfl (enters_of Try.func47 (by kernel_rfl) rfl) (fun fn2 rec2 hrec2 => ?_)
          obtain ⟨D2, hD2⟩ : ∃ D2, D2 = Ub.heap.size := ⟨_, rfl⟩
          rw [← hD2]
          obtain ⟨V3, hV3⟩ : ∃ V3, V3 = (Ub.alloc (.deferred (some []))).alloc (.loop (rec2 .ready none)) := ⟨_, rfl⟩
          have hGo3 : Gz No No Ub No V3 := by rw [hV3]; exact ((Gz.refl _ _ _).alloc _).alloc _
          have hsV : V3.heap.size = D2 + 2 := by rw [hV3]; simp [hD2]
          have hlV : V3.heap[D2 + 1]? = some (.loop (rec2 .ready none)) := by
            rw [hV3]
            have := World.alloc_heap_new (Ub.alloc (.deferred (some []))) (.loop (rec2 .ready none))
            rwa [World.size_alloc, ← hD2] at this
          have hdV : V3.heap[D2]? = some (.deferred (some [])) := by
            rw [hV3]
            have := World.alloc_heap_new Ub (.deferred (some []))
            rw [← hD2] at this
            exact (Below.heap_alloc _ _ _ (by simp [hD2])).trans this
          rw [← hV3]
          have hG3V : Gz No No u3 No V3 := hGb.trans hGo3
          have S2' : Lies V3 _ _ _ := hG3V.lies R2 (fun h => h) (fun h => h)
          have Sb : Lies V3 _ _ _ := hG3V.lies Lb3 (fun h => h) (fun h => h)
          have Sx : Lies V3 bx2 35 #[.slice A2 tn c4] := hGo3.lies Lx2 (fun h => h) (fun h => h)
          have hd1V : V3.heap[W.heap.size + 4]? = some (.deferred (some [])) := hG3V.heap hdd3 (fun h => h) (fun h => h)
          have hcYV := hG3V.cell hcY (fun h => h) (fun h => h)
          have hmV : MapIs V3 bm _ C2 := hm3.heap (hG3V.same bm hm3.lt (fun h => h) (fun h => h))
          have hJV := hA.own hJ3 hG3V fun _ _ h => h
          have hGWV : Gz (· = bm) Z W Z3 V3 := hG3.trans (hG3V.any.more (fun _ h => h.elim))
          have hrc : wc.ownsRow Ua.heap.size 3 1 (.slice Av tn cv) tn (vI (rowC C1 b tn)) := hrow
          have hsu := hbUb.size
          have z3b : ∀ q, u3.heap.size ≤ q → ¬ Z3 q := fun q hq h => by have := hA.lt _ _ _ hJ3 _ h; omega
          have HZ3 := Lib.hid z3b
          have HQ3 := Lib.hid zq3
          have hmlt := hm3.lt
          have hbmW : bm < W.heap.size := hbm
          have hx3 : bx2 < D2 := by omega
          have hx4 : u3.heap.size ≤ D2 := by omega
          have hx5 : Ub.heap.size ≤ D2 := by omega
          have hx6 : D2 ≤ Ub.heap.size := by omega
          clear hD2 hsb
          -- the rows' cells
          have hrows : Hid (0 < tn → ∃ ga g2, Av = some ⟨ga, 0, none⟩ ∧ A2 = some ⟨g2, 0, none⟩ ∧ ga ≠ D2 + 1 ∧ g2 ≠ D2 + 1 ∧ ¬ Z3 ga ∧ ¬ Z3 g2 ∧ ga ≠ W.heap.size + 2 ∧ g2 ≠ W.heap.size + 2 ∧ (∀ j : Nat, j < tn → V3.cell? ⟨ga, j, none⟩ = some (.int .i64 (C1 (b + (j : Int))))) ∧ (∀ j : Nat, j < tn → V3.cell? ⟨g2, j, none⟩ = some (.int .i64 (C2 (b + (j : Int)))))) := Lib.hid fun hpos => by
            obtain ⟨ga, hA1, hb1, hl1, hc1⟩ := ownsRow_cells hrc hpos
            obtain ⟨g2, hA2, hb2, hl2, hc2⟩ := ownsRow_cells hrw hpos
            have ega : ga ≠ bm := by omega
            refine ⟨ga, g2, hA1, hA2, by omega, by omega, HQ3.out ga hl1 (by omega) (.inr hb1), HZ3.out g2 hb2, by omega, by omega, fun j hj => ?_, fun j hj => hGo3.cell (hc2 j hj) (fun h => h) (fun h => h)⟩
            exact hG3V.cell (hG93.cell (hc1 j hj) (HZB.out ga hb1) ega) (fun h => h) (fun h => h)
          obtain ⟨ow, how⟩ : ∃ ow, ow = ownE k n (.node k0 n0 s0 l0 :: r) := ⟨_, rfl⟩
          have HOW : Hid (∀ i : Nat, i < tn → ow[i]? = some (C2 (b + (i : Int)) - C1 (b + (i : Int)))) := Lib.hid fun i hi => by
            rw [how, own_is C1 k n _ r b i (by rw [← HTN.out]; exact hi), HC2.out, HMO.out]
          have hol : ow.length = tn := by rw [how, ownE_len, HTN.out]
          have HOL := Lib.hid hol
          have HOWE := Lib.hid how
          obtain ⟨pre2, hpre2⟩ : ∃ pre2, pre2 = pre ++ (ofEL r).reverse ++ (ofE (.node k0 n0 s0 l0)).reverse := ⟨_, rfl⟩
          rw [← hpre2] at hJV
          have HP2 : Hid (pre2 ++ ow.reverse <+: full) := Lib.hid (by have := HPF.out; rw [hpre2, how]; simpa [List.append_assoc] using this)
          have HPRE2 := Lib.hid hpre2
          clear hV3 hGb hGo3 hG3V Lb3 Lx2 hrw hrow hrc hJ3 hm3 hcM hcY hdd3 R0 R1 R2 hol how hpre2 z3b zq3 hbUb Lb
          obtain ⟨J2, hJ2⟩ : ∃ J2 : Nat → World → Prop, J2 = fun i U => ∃ Z4, Gz (fun q => q = D2 + 1) Z3 V3 Z4 U ∧ U.heap[D2 + 1]? = some (.loop (rec2 .ready none)) ∧ J (pre2 ++ (ow.drop i).reverse) Z4 U := ⟨_, rfl⟩
          obtain ⟨Jx2, hJx2⟩ : ∃ Jx2 : World → Prop, Jx2 = fun U => ∃ Z4, Gz (fun q => q = D2 + 1 ∨ q = W.heap.size + 2) Z3 V3 Z4 U ∧ U.heap[D2 + 1]? = some (.loop (rec2 .done (some .ret))) ∧
              U.cell? ⟨W.heap.size + 2, 0, none⟩ = some (.bool false) ∧ ∃ q, pre2 ++ q <+: full ∧ Jx (pre2 ++ q) Z4 U := ⟨_, rfl⟩
          obtain ⟨ga, g2, hga⟩ : ∃ ga g2 : Nat, 0 < tn → Av = some ⟨ga, 0, none⟩ ∧ A2 = some ⟨g2, 0, none⟩ ∧ ga ≠ D2 + 1 ∧ g2 ≠ D2 + 1 ∧ ¬ Z3 ga ∧ ¬ Z3 g2 ∧ ga ≠ W.heap.size + 2 ∧ g2 ≠ W.heap.size + 2 ∧ (∀ j : Nat, j < tn → V3.cell? ⟨ga, j, none⟩ = some (.int .i64 (C1 (b + (j : Int))))) ∧ (∀ j : Nat, j < tn → V3.cell? ⟨g2, j, none⟩ = some (.int .i64 (C2 (b + (j : Int))))) := by
            by_cases hpos : 0 < tn
            · obtain ⟨ga, g2, hh⟩ := hrows.out hpos
              exact ⟨ga, g2, fun _ => hh⟩
            · exact ⟨0, 0, fun h => absurd h hpos⟩
          have HGA := Lib.hid hga
          clear hga hrows
          refine (backI_in (D2 + 1) bx2 g2 0 tn c4 A2 (fun j => C2 (b + (j : Int))) J2 Jx2 (by omega) (fun h => (HGA.out h).2.1) ?hJ ?hY V3 ?h0).mono ?_
          case h0 =>
            rw [hJ2]
            refine ⟨Z3, Gz.refl _ _ _, hlV, ?_⟩
            rw [List.drop_of_length_le (by rw [HOL.out]; exact Nat.le_refl _)]
            simpa using hJV
          case hJ =>
            intro i U hU
            rw [hJ2] at hU
            obtain ⟨Z4, hG, _, _⟩ := hU
            refine ⟨hG.cell (Sx.cell 0) (HZ3.out bx2 (by omega)) (by omega), fun j hj => ?_⟩
            obtain ⟨_, _, _, h2, _, h4, _, _, _, h6⟩ := HGA.out (by omega)
            rw [Nat.zero_add]
            exact hG.cell (h6 j hj) h4 h2
          case hY =>
            intro i U hi hU
            rw [hJ2] at hU
            obtain ⟨Z4, hG, hlU, hJU⟩ := hU
            show YieldAt _ _ _ _ #[.int .i64 (i : Int), .int .i64 (C2 (b + (i : Int)))] U _
            have hsU := hG.size
            obtain ⟨V8, hV8⟩ : ∃ V8, V8 = U.putObj (D2 + 1) (.loop (rec2 .busy none)) := ⟨_, rfl⟩
            have hGo8 : Gz (· = D2 + 1) No U No V8 := by rw [hV8]; exact (Gz.refl _ _ _).put _ (.inr rfl)
            have hl8 : V8.heap[D2 + 1]? = some (.loop (rec2 .busy none)) := by rw [hV8]; exact World.putObj_heap_same (by omega)
            have hG8 : Gz (fun q => q = D2 + 1) Z3 V3 Z4 V8 := hG.tail hGo8.any (fun q _ h => h)
            have z4l : ¬ Z4 (D2 + 1) := hG.not (by omega) (HZ3.out _ (by omega))
            have z4t : ¬ Z4 (W.heap.size + 2) := hG.not (by omega) (HQ3.out _ (by omega) (by omega) (.inl (by omega)))
            have hJ8 : J (pre2 ++ (ow.drop (i + 1)).reverse) Z4 V8 := hA.own hJU hGo8 fun q hz e => z4l (e ▸ hz)
            obtain ⟨hAv, _, ha1, _, ha3, _, ha5, _, ha7, _⟩ := HGA.out (by omega)
            have c8Y := hG8.cell hcYV (fun h => (hG3.not hYL (HOM.out Yb (.inr (.inr rfl))).1) h) (by omega)
            have z3b : ¬ Z3 gb := HQ3.out gb hltb (by omega) (.inr hgb)
            have c8b : V8.cell? ⟨gb, 0, none⟩ = some (.slice Av tn cv) := hG8.cell (Sb.cell 0) z3b (by omega)
            have c8a := hG8.cell (ha7 i hi) ha3 ha1
            have T8 : Lies V8 (W.heap.size + 2) 4 #[.bool false] := hG8.lies S2' (HQ3.out _ (by omega) (by omega) (.inl (by omega))) (by omega)
            have hsn := drop_snoc_rev ow i _ (HOW.out i hi)
            have HSN := Lib.hid hsn
            have hpx : pre2 ++ (ow.drop (i + 1)).reverse ++ [C2 (b + (i : Int)) - C1 (b + (i : Int))] <+: full := by
              rw [List.append_assoc, hsn]
              exact app_pref (drop_rev ow i) HP2.out
            have hJ9 : J (pre2 ++ (ow.drop (i + 1)).reverse) Z4 V8.drew := hA.own hJ8 (Gz.refl No No V8).drew fun _ _ h => h
            obtain ⟨fn3, tmps3, assign3, body3, hyy, hR⟩ := hA.round _ _ Z4 _ hJ9 hpx
            have hC1x := hC1b (b + (i : Int))
            have hC2x := hC2b (b + (i : Int))
            subst hAv
            rw [hJ2, hJx2]
            refine yield_rec hrec2 hlU rfl ?_
            have HLU := Lib.hid hlU
            clear hsn hpx hJ9 hJ8 hJU hrec2 hlU
            gi_wp2
            refine ⟨HLU.out, ?_⟩
            rw [← hV8]
            clear hV8 hGo8
            gi_upto_region 15 with fail
            gi_cut [74] from 75 (fun v wx => ∃ (rr : Bool) (Z5 : Nat → Prop), v = .bool (!rr) ∧ Gz No Z4 V8 Z5 wx ∧ (rr = true → J (pre2 ++ (ow.drop (i + 1)).reverse ++ [C2 (b + (i : Int)) - C1 (b + (i : Int))]) Z5 wx) ∧ (rr = false → Jx (pre2 ++ (ow.drop (i + 1)).reverse ++ [C2 (b + (i : Int)) - C1 (b + (i : Int))]) Z5 wx))
            case first =>
              refine region_round rfl (by kernel_rfl) ?_
              change wpAnyIn _ _ _ _ _ _ 9 (Array.replicate 9 false) _ _
              refine wpAnyIn_take (i := 1) (oi := ⟨some 67, _, _, _, _, _⟩) (v := .int .i64 (C2 (b + (i : Int)))) rfl rfl (by kernel_rfl) (by kernel_rfl) (by kernel_rfl) (fun _ _ _ h => h) ⟨Or.inl ⟨by rfl, fun W => by kernel_rfl⟩, fun _ => rfl⟩ ?_
              try simp only [Act.put, List.setIfInBounds_toArray, List.set_cons_zero, List.set_cons_succ]
              refine wpAnyIn_take (i := 3) (oi := ⟨some 69, _, _, _, _, _⟩) (v := .int .i64 (i : Int)) rfl rfl (by kernel_rfl) (by kernel_rfl) (by kernel_rfl) (fun _ _ _ h => h) ⟨Or.inl ⟨by rfl, fun W => by kernel_rfl⟩, fun _ => rfl⟩ ?_
              try simp only [Act.put, List.setIfInBounds_toArray, List.set_cons_zero, List.set_cons_succ]
              refine wpAnyIn_ready (rs := [0, 2]) (by kernel_rfl) (by simp) (AllReadyIn.cons rfl (fun K hK => ?_) (AllReadyIn.cons rfl (fun K hK => ?_) AllReadyIn.nil))
              · go_simp
                refine hK _ _ ?_
                clear hK K
                try simp only [Act.put, List.setIfInBounds_toArray, List.set_cons_zero, List.set_cons_succ]
                refine wpAnyIn_ready (rs := [2]) (by kernel_rfl) (by simp) (AllReadyIn.cons rfl (fun K hK => ?_) AllReadyIn.nil)
                go_simp
                refine hK _ _ ?_
                clear hK K
                try simp only [Act.put, List.setIfInBounds_toArray, List.set_cons_zero, List.set_cons_succ]
                refine wpAnyIn_take (i := 4) (oi := ⟨some 70, _, _, _, _, _⟩) (v := .pointer (some ⟨ga, i, none⟩)) rfl rfl (by kernel_rfl) (by kernel_rfl) (by kernel_rfl) (fun _ _ _ h => h) ⟨Or.inl ⟨by rfl, fun W => by first | (go_simp; done) | (go_simp; omega) | (go_simp; exact IntWalk.i64_in _ (by omega))⟩, fun _ => rfl⟩ ?_
                try simp only [Act.put, List.setIfInBounds_toArray, List.set_cons_zero, List.set_cons_succ]
                refine wpAnyIn_ready (rs := [5]) (by kernel_rfl) (by simp) (AllReadyIn.cons rfl (fun K hK => ?_) AllReadyIn.nil)
                go_simp
                refine hK _ _ ?_
                clear hK K
                try simp only [Act.put, List.setIfInBounds_toArray, List.set_cons_zero, List.set_cons_succ]
                refine wpAnyIn_take (i := 6) (oi := ⟨some 72, _, _, _, _, _⟩) (v := .int .i64 (C2 (b + (i : Int)) - C1 (b + (i : Int)))) rfl rfl (by kernel_rfl) (by kernel_rfl) (by kernel_rfl) (fun _ _ _ h => h) ⟨Or.inl ⟨by rfl, fun W => by first | (go_simp; done) | (go_simp; omega) | (go_simp; exact IntWalk.i64_in _ (by omega))⟩, fun _ => rfl⟩ ?_
                try simp only [Act.put, List.setIfInBounds_toArray, List.set_cons_zero, List.set_cons_succ]
                refine wpAnyIn_ready (rs := [7]) (by kernel_rfl) (by simp) (AllReadyIn.cons rfl (fun K hK => ?_) AllReadyIn.nil)
                go_simp
                refine hR.mono ?_
                rintro e w5 ⟨rr, Z5, rfl, hg5, ht5, hf5⟩
                refine hK _ _ ?_
                clear hK K
                try simp only [Act.put, List.setIfInBounds_toArray, List.set_cons_zero, List.set_cons_succ]
                refine wpAnyIn_take (i := 8) (oi := ⟨some 74, _, _, _, _, _⟩) (v := .bool (!rr)) rfl rfl (by kernel_rfl) (by kernel_rfl) (by kernel_rfl) (fun _ _ _ h => h) ⟨Or.inl ⟨by rfl, fun W => by kernel_rfl⟩, fun _ => rfl⟩ ?_
                try simp only [Act.put, List.setIfInBounds_toArray, List.set_cons_zero, List.set_cons_succ]
                refine wpAnyIn_done (by kernel_rfl) (calm_in ?_) _
                gi_wp2
                gi_meet
                exact ⟨rr, Z5, rfl, (Gz.refl _ _ _).drew.trans hg5, ht5, hf5⟩
              · go_simp
                refine hK _ _ ?_
                clear hK K
                try simp only [Act.put, List.setIfInBounds_toArray, List.set_cons_zero, List.set_cons_succ]
                refine wpAnyIn_take (i := 4) (oi := ⟨some 70, _, _, _, _, _⟩) (v := .pointer (some ⟨ga, i, none⟩)) rfl rfl (by kernel_rfl) (by kernel_rfl) (by kernel_rfl) (fun _ _ _ h => h) ⟨Or.inl ⟨by rfl, fun W => by first | (go_simp; done) | (go_simp; omega) | (go_simp; exact IntWalk.i64_in _ (by omega))⟩, fun _ => rfl⟩ ?_
                try simp only [Act.put, List.setIfInBounds_toArray, List.set_cons_zero, List.set_cons_succ]
                refine wpAnyIn_ready (rs := [0, 5]) (by kernel_rfl) (by simp) (AllReadyIn.cons rfl (fun K hK => ?_) (AllReadyIn.cons rfl (fun K hK => ?_) AllReadyIn.nil))
                · go_simp
                  refine hK _ _ ?_
                  clear hK K
                  try simp only [Act.put, List.setIfInBounds_toArray, List.set_cons_zero, List.set_cons_succ]
                  refine wpAnyIn_ready (rs := [5]) (by kernel_rfl) (by simp) (AllReadyIn.cons rfl (fun K hK => ?_) AllReadyIn.nil)
                  go_simp
                  refine hK _ _ ?_
                  clear hK K
                  try simp only [Act.put, List.setIfInBounds_toArray, List.set_cons_zero, List.set_cons_succ]
                  refine wpAnyIn_take (i := 6) (oi := ⟨some 72, _, _, _, _, _⟩) (v := .int .i64 (C2 (b + (i : Int)) - C1 (b + (i : Int)))) rfl rfl (by kernel_rfl) (by kernel_rfl) (by kernel_rfl) (fun _ _ _ h => h) ⟨Or.inl ⟨by rfl, fun W => by first | (go_simp; done) | (go_simp; omega) | (go_simp; exact IntWalk.i64_in _ (by omega))⟩, fun _ => rfl⟩ ?_
                  try simp only [Act.put, List.setIfInBounds_toArray, List.set_cons_zero, List.set_cons_succ]
                  refine wpAnyIn_ready (rs := [7]) (by kernel_rfl) (by simp) (AllReadyIn.cons rfl (fun K hK => ?_) AllReadyIn.nil)
                  go_simp
                  refine hR.mono ?_
                  rintro e w5 ⟨rr, Z5, rfl, hg5, ht5, hf5⟩
                  refine hK _ _ ?_
                  clear hK K
                  try simp only [Act.put, List.setIfInBounds_toArray, List.set_cons_zero, List.set_cons_succ]
                  refine wpAnyIn_take (i := 8) (oi := ⟨some 74, _, _, _, _, _⟩) (v := .bool (!rr)) rfl rfl (by kernel_rfl) (by kernel_rfl) (by kernel_rfl) (fun _ _ _ h => h) ⟨Or.inl ⟨by rfl, fun W => by kernel_rfl⟩, fun _ => rfl⟩ ?_
                  try simp only [Act.put, List.setIfInBounds_toArray, List.set_cons_zero, List.set_cons_succ]
                  refine wpAnyIn_done (by kernel_rfl) (calm_in ?_) _
                  gi_wp2
                  gi_meet
                  exact ⟨rr, Z5, rfl, (Gz.refl _ _ _).drew.trans hg5, ht5, hf5⟩
                · go_simp
                  refine hK _ _ ?_
                  clear hK K
                  try simp only [Act.put, List.setIfInBounds_toArray, List.set_cons_zero, List.set_cons_succ]
                  refine wpAnyIn_take (i := 6) (oi := ⟨some 72, _, _, _, _, _⟩) (v := .int .i64 (C2 (b + (i : Int)) - C1 (b + (i : Int)))) rfl rfl (by kernel_rfl) (by kernel_rfl) (by kernel_rfl) (fun _ _ _ h => h) ⟨Or.inl ⟨by rfl, fun W => by first | (go_simp; done) | (go_simp; omega) | (go_simp; exact IntWalk.i64_in _ (by omega))⟩, fun _ => rfl⟩ ?_
                  try simp only [Act.put, List.setIfInBounds_toArray, List.set_cons_zero, List.set_cons_succ]
                  refine wpAnyIn_ready (rs := [0]) (by kernel_rfl) (by simp) (AllReadyIn.cons rfl (fun K hK => ?_) AllReadyIn.nil)
                  go_simp
                  refine hK _ _ ?_
                  clear hK K
                  try simp only [Act.put, List.setIfInBounds_toArray, List.set_cons_zero, List.set_cons_succ]
                  refine wpAnyIn_ready (rs := [7]) (by kernel_rfl) (by simp) (AllReadyIn.cons rfl (fun K hK => ?_) AllReadyIn.nil)
                  go_simp
                  refine hR.mono ?_
                  rintro e w5 ⟨rr, Z5, rfl, hg5, ht5, hf5⟩
                  refine hK _ _ ?_
                  clear hK K
                  try simp only [Act.put, List.setIfInBounds_toArray, List.set_cons_zero, List.set_cons_succ]
                  refine wpAnyIn_take (i := 8) (oi := ⟨some 74, _, _, _, _, _⟩) (v := .bool (!rr)) rfl rfl (by kernel_rfl) (by kernel_rfl) (by kernel_rfl) (fun _ _ _ h => h) ⟨Or.inl ⟨by rfl, fun W => by kernel_rfl⟩, fun _ => rfl⟩ ?_
                  try simp only [Act.put, List.setIfInBounds_toArray, List.set_cons_zero, List.set_cons_succ]
                  refine wpAnyIn_done (by kernel_rfl) (calm_in ?_) _
                  gi_wp2
                  gi_meet
                  exact ⟨rr, Z5, rfl, (Gz.refl _ _ _).drew.trans hg5, ht5, hf5⟩
            case rest =>
              obtain ⟨rr, Z5, rfl, hg5, ht5, hf5⟩ := hcut
              have hl5 : wc.heap[D2 + 1]? = some (.loop (rec2 .busy none)) := hg5.heap hl8 z4l (fun h => h)
              have hG5 : Gz (fun q => q = D2 + 1) Z3 V3 Z5 wc := hG8.tail hg5 (fun q _ h => h.elim)
              have R5 : Lies wc (W.heap.size + 2) 4 #[.bool false] := hg5.lies T8 z4t (fun h => h)
              have hs5 := hG5.size
              have z5l : ¬ Z5 (D2 + 1) := hG5.not (by omega) (HZ3.out _ (by omega))
              have z5t : ¬ Z5 (W.heap.size + 2) := hG5.not (by omega) (HQ3.out _ (by omega) (by omega) (.inl (by omega)))
              cases rr
              · have HFX := Lib.hid (hf5 rfl)
                have x0 : wc.cell? ⟨W.heap.size + 1 + 1, 0, none⟩ = some (.bool false) := R5.cell 0
                have x1 : wc.frozen? ⟨W.heap.size + 1 + 1, 0, none⟩ = false := R5.frozen 0
                have hGs : Gz (fun q => q = W.heap.size + 2 ∨ q = D2 + 1) No wc No ((wc.setCell ⟨W.heap.size + 1 + 1, 0, none⟩ (.bool false)).putObj (D2 + 1) (.loop (rec2 .done (some .ret)))) := ((Gz.refl _ _ _).setCell _ _ (.inr (.inl rfl))).put _ (.inr (.inr rfl))
                have hl6 : (wc.setCell ⟨W.heap.size + 1 + 1, 0, none⟩ (.bool false)).heap[D2 + 1]? = some (.loop (rec2 .busy none)) := (Below.heap_setCell _ _ _ _ (by show D2 + 1 ≠ W.heap.size + 1 + 1; omega)).trans hl5
                clear hf5 ht5
                gi_wp2
                refine ⟨hl6, .inr ⟨rfl, Z5, (hG5.more (E' := fun q => q = D2 + 1 ∨ q = W.heap.size + 2) (fun q h => .inl h)).tail hGs.any (fun q _ h => h.elim (fun h => .inr h) (fun h => .inl h)), World.putObj_heap_same (by rw [show (wc.setCell ⟨W.heap.size + 1 + 1, 0, none⟩ (.bool false)).heap.size = wc.heap.size from by simp [World.setCell]]; omega), ?_, ?_⟩⟩
                · refine (World.cell?_of_block (World.putObj_heap_other (by show W.heap.size + 2 ≠ D2 + 1; omega))).trans ?_
                  exact World.cell?_setCell_same' _ _ _ (by rw [x0]; rfl)
                · have hy := hA.ownX HFX.out hGs fun j hj hE => hE.elim (fun e => z5t (e ▸ hj)) (fun e => z5l (e ▸ hj))
                  rw [List.append_assoc, HSN.out] at hy
                  exact ⟨_, app_pref (drop_rev ow i) HP2.out, hy⟩
              · have HTX5 := Lib.hid (ht5 rfl)
                have hGs : Gz (· = D2 + 1) No wc No (wc.putObj (D2 + 1) (.loop (rec2 .ready none))) := (Gz.refl _ _ _).put _ (.inr rfl)
                clear hf5 ht5
                gi_wp2
                refine ⟨hl5, .inl ⟨rfl, Z5, hG5.tail hGs.any (fun q _ h => h), World.putObj_heap_same (by omega), ?_⟩⟩
                have hy := hA.own HTX5.out hGs fun j hj e => z5l (e ▸ hj)
                rw [List.append_assoc, HSN.out] at hy
                exact hy
          rintro e U2 ⟨hv2, hU2⟩
          refine ⟨hv2, ?_⟩
          rcases hU2 with hU2 | hU2
          · rw [hJ2] at hU2
            obtain ⟨Z4, hG, hlU2, hJU2⟩ := hU2
            refine .inl ⟨hlU2, ?_⟩
            simp only [Exit.inBlock, Exit.then]
            refine hK2 _ _ ?_
            have hsU2 := hG.size
            have hGp : Gz (fun q => q = D2 + 1) Z3 V3 Z4 (U2.putObj (D2 + 1) (.loop (rec2 .exhausted none))) := hG.put _ (.inr rfl)
            have hGo9 : Gz (· = D2 + 1) No U2 No (U2.putObj (D2 + 1) (.loop (rec2 .exhausted none))) := (Gz.refl _ _ _).put _ (.inr rfl)
            have z4l : ¬ Z4 (D2 + 1) := hG.not (by omega) (HZ3.out _ (by omega))
            have hJ10 := hA.own hJU2 hGo9 fun q hz e => z4l (e ▸ hz)
            generalize U2.putObj (D2 + 1) (.loop (rec2 .exhausted none)) = V9 at hGp hGo9 hJ10 ⊢
            have T9 : Lies V9 (W.heap.size + 2) 4 #[.bool false] := hGp.lies S2' (HQ3.out _ (by omega) (by omega) (.inl (by omega))) (by omega)
            have x0 : V9.cell? ⟨W.heap.size + 1 + 1, 0, none⟩ = some (.bool false) := T9.cell 0
            have x1 : V9.frozen? ⟨W.heap.size + 1 + 1, 0, none⟩ = false := T9.frozen 0
            have hd9 : V9.heap[D2]? = some (.deferred (some [])) := hGp.heap hdV (HZ3.out _ (by omega)) (by omega)
            have hd9' : V9.heap[W.heap.size + 4]? = some (.deferred (some [])) := hGp.heap hd1V (HQ3.out _ (by omega) (by omega) (.inl (by omega))) (by omega)
            obtain ⟨V10, hV10⟩ : ∃ V10, V10 = ((V9.setCell ⟨W.heap.size + 1 + 1, 0, none⟩ (.bool true)).putObj D2 (.deferred none)).putObj (W.heap.size + 4) (.deferred none) := ⟨_, rfl⟩
            have hGs : Gz (fun q => q = W.heap.size + 2 ∨ q = D2 ∨ q = W.heap.size + 4) No V9 No V10 := by rw [hV10]; exact (((Gz.refl _ _ _).setCell _ _ (.inr (.inl rfl))).put _ (.inr (.inr (.inl rfl)))).put _ (.inr (.inr (.inr rfl)))
            have hcc : V10.cell? ⟨W.heap.size + 1 + 1, 0, none⟩ = some (.bool true) := by
              rw [hV10]
              refine (World.cell?_of_block ((World.putObj_heap_other (by show W.heap.size + 1 + 1 ≠ W.heap.size + 4; omega)).trans (World.putObj_heap_other (by show W.heap.size + 1 + 1 ≠ D2; omega)))).trans ?_
              exact World.cell?_setCell_same' _ _ _ (by rw [x0]; rfl)
            gi_wp2
            refine ends2 (v := .bool true) ((Below.heap_setCell _ _ _ _ (by show D2 ≠ W.heap.size + 1 + 1; omega)).trans hd9) ((Below.heap_setCell _ _ _ _ (by show W.heap.size + 4 ≠ W.heap.size + 1 + 1; omega)).trans hd9') (by omega) (by rw [← hV10]; exact results_bool rfl _ (g := W.heap.size + 1 + 1) (r := true) rfl hcc) ?_
            rw [← hV10, HR.out]
            have z4q : ∀ q, q = W.heap.size + 2 ∨ q = D2 ∨ q = W.heap.size + 4 → ¬ Z4 q := fun q hq => hG.not (by omega) (hq.elim (fun h => HQ3.out q (by omega) (by omega) (.inl (by omega))) (fun h => h.elim (fun h => HZ3.out q (by omega)) (fun h => HQ3.out q (by omega) (by omega) (.inl (by omega)))))
            have hG10 : Gz (· = bm) Z W Z4 V10 := (hGWV.tail hGp fun q _ h => by omega).tail hGs.any fun q _ h => by omega
            refine ⟨true, Z4, rfl, hG10, fun _ => ⟨?_, ?_⟩, (fun h => by cases h)⟩
            · have hm10 := hmV.heap (hGp.same bm hmV.lt (hG3.not hbm H.out.offB) (by omega))
              have hm11 := hm10.heap (hGs.same bm hm10.lt (fun h => h) (by omega))
              rw [keyC_node C k n s _ b (by simpa using hk1), ← keyC_cons, ← HMO.out, ← HC1.out, ← HC2.out]
              have e1 : sizeE (.node k n s (.node k0 n0 s0 l0 :: r)) = sizeEL (.node k0 n0 s0 l0 :: r) + 1 := by rw [sizeE]
              have e2 : sizeEL (.node k0 n0 s0 l0 :: r) = sizeE (.node k0 n0 s0 l0) + sizeEL r := by rw [sizeEL]
              exact hm11.mono (by omega)
            · have hy := hA.own hJ10 hGs fun q hq hE => z4q q hE hq
              rw [of_rev, ← HOWE.out]
              rw [HPRE2.out] at hy
              simpa [List.append_assoc] using hy
          · rw [hJx2] at hU2
            obtain ⟨Z4, hG, hlU2, hcU, q, hq, hx⟩ := hU2
            refine .inr ⟨hlU2, ?_⟩
            simp only [Exit.inBlock, Exit.then]
            have hdU : U2.heap[D2]? = some (.deferred (some [])) := hG.heap hdV (HZ3.out _ (by omega)) (by omega)
            have hdU' : U2.heap[W.heap.size + 4]? = some (.deferred (some [])) := hG.heap hd1V (HQ3.out _ (by omega) (by omega) (.inl (by omega))) (by omega)
            have hsU2 := hG.size
            obtain ⟨V10, hV10⟩ : ∃ V10, V10 = ((U2.putObj (D2 + 1) (.loop (rec2 .exhausted (some .ret)))).putObj D2 (.deferred none)).putObj (W.heap.size + 4) (.deferred none) := ⟨_, rfl⟩
            have hGs : Gz (fun q => q = D2 + 1 ∨ q = D2 ∨ q = W.heap.size + 4) No U2 No V10 := by rw [hV10]; exact (((Gz.refl _ _ _).put _ (.inr (.inl rfl))).put _ (.inr (.inr (.inl rfl)))).put _ (.inr (.inr (.inr rfl)))
            have hcc : V10.cell? ⟨W.heap.size + 1 + 1, 0, none⟩ = some (.bool false) := (World.cell?_of_block (hGs.same (W.heap.size + 2) (by omega) (fun h => h) (by omega))).trans hcU
            refine ends2 (v := .bool false) ((World.putObj_heap_other (by omega)).trans hdU) ((World.putObj_heap_other (by omega)).trans hdU') (by omega) (by rw [← hV10]; exact results_bool rfl _ (g := W.heap.size + 1 + 1) (r := false) rfl hcc) ?_
            rw [← hV10, HR.out]
            have z4q : ∀ q, q = D2 + 1 ∨ q = D2 ∨ q = W.heap.size + 4 → ¬ Z4 q := fun q hq => hG.not (by omega) (hq.elim (fun h => HZ3.out q (by omega)) (fun h => h.elim (fun h => HZ3.out q (by omega)) (fun h => HQ3.out q (by omega) (by omega) (.inl (by omega)))))
            have hG10 : Gz (· = bm) Z W Z4 V10 := (hGWV.tail hG fun q _ h => by omega).tail hGs.any fun q _ h => by omega
            have hy := hA.ownX hx hGs fun j hj hE => z4q j hE hj
            refine ⟨false, Z4, rfl, hG10, (fun h => by cases h), fun _ => ⟨(ofEL r).reverse ++ (ofE (.node k0 n0 s0 l0)).reverse ++ q, ?_, ?_⟩⟩
            · rw [HPRE2.out] at hq; simpa [List.append_assoc] using hq
            · rw [HPRE2.out] at hy; simpa [List.append_assoc] using hy
    · rw [hJx1] at hU
      obtain ⟨Z1, hG, hlU, hcU, q, hq, hx⟩ := hU
      refine .inr ⟨hlU, ?_⟩
      simp only [Exit.inBlock, Exit.then]
      have hdU : U.heap[W.heap.size + 4]? = some (.deferred (some [])) := hG.heap hd2 (HB.out 4 (by omega)) (by omega)
      have hltU := (Array.getElem?_eq_some_iff.1 hlU).1
      have hGs : Gz (fun q => q = W.heap.size + 4 ∨ q = W.heap.size + 4 + 1) No U No ((U.putObj (W.heap.size + 4 + 1) (.loop (rec .exhausted (some .ret)))).putObj (W.heap.size + 4) (.deferred none)) := ((Gz.refl _ _ _).put _ (.inr (.inr rfl))).put _ (.inr (.inl rfl))
      have z4 : ¬ Z1 (W.heap.size + 4) := hG.not (by omega) (HB.out 4 (by omega))
      have z5 : ¬ Z1 (W.heap.size + 4 + 1) := hG.not (by omega) (HB.out 5 (by omega))
      have hcc : ((U.putObj (W.heap.size + 4 + 1) (.loop (rec .exhausted (some .ret)))).putObj (W.heap.size + 4) (.deferred none)).cell? ⟨W.heap.size + 1 + 1, 0, none⟩ = some (.bool false) := by
        refine (World.cell?_of_block ?_).trans hcU
        exact (World.putObj_heap_other (by show W.heap.size + 1 + 1 ≠ W.heap.size + 4; omega)).trans (World.putObj_heap_other (by show W.heap.size + 1 + 1 ≠ W.heap.size + 4 + 1; omega))
      refine ends1 (v := .bool false) ((World.putObj_heap_other (by omega)).trans hdU) (results_bool rfl _ (g := W.heap.size + 1 + 1) (r := false) rfl hcc) ?_
      rw [HR.out]
      refine ⟨false, Z1, rfl, ?_, (fun h => by cases h), fun _ => ⟨q, hq, hA.ownX hx hGs fun j hj hE => hE.elim (fun e => z4 (e ▸ hj)) (fun e => z5 (e ▸ hj))⟩⟩
      exact (hG2.any.more (fun _ h => h.elim) |>.tail hG fun q hq hE => hE.elim id (fun e => by omega)).tail hGs.any fun q hq hE => by omega
end
end Lx
end Go.Proofs.Ytgnafcnokenogaa
