/-
  The document's answer for layer 11: Fans, Drops; what it tells free is what the program tells.
-/
import Derived.Test.YtcefopaphaeejaaUsOf
namespace Go.Proofs.Ytcefopaphaeejaa
open Go Go.RowKit
namespace Lx
set_option maxRecDepth 100000
theorem rOf_all (t : Te) (A : Option Addr) (c : Nat) (w : World) (hd : depthE t ≤ 4000) (hs : sizeE t ≤ 1000000) (ht : tameE 1099511627776 1099511627776 t) (hI : EIn w Any t A) :
    Calls Try.prog 17 #[ev t A c] w (GivesR (ofE t) w) :=
  (rOf_any (depthE t) t A c w (Nat.le_refl _) hd hs ht hI).mono fun _e _w' ⟨g, q, he, hr, hb⟩ => ⟨some ⟨g, 0, none⟩, q, he, rowI_own hr, hb⟩
theorem take_len (xs : List Int) (i : Nat) : (xs.take i).length ≤ xs.length := by rw [List.length_take]; omega
theorem fans_take_ok {t : Te} (hs : sizeE t ≤ 1000000) (i : Nat) : 0 ≤ fansL ((ofE t).take i) ∧ fansL ((ofE t).take i) ≤ 8000000000000 := by
  have h := fansL_bound (M := 1000000) (by omega) ((ofE t).take i) (fun x hx => by have := ofE_le t x (List.mem_of_mem_take hx); omega)
  have h2 := ofE_len t
  have h3 := take_len (ofE t) i
  have h4 : (((ofE t).take i).length : Int) * 1000000 ≤ 8000000 * 1000000 := Int.mul_le_mul_of_nonneg_right (by omega) (by omega)
  omega
theorem drops_take_ok {t : Te} (hs : sizeE t ≤ 1000000) (i : Nat) : 0 ≤ dropsL ((ofE t).take i) ∧ dropsL ((ofE t).take i) ≤ 8000000000000 := by
  have h := dropsL_bound ((ofE t).take i)
  have h2 := ofE_len t
  have h3 := take_len (ofE t) i
  omega
set_option maxHeartbeats 4000000 in
theorem rFans_any (t : Te) (A : Option Addr) (c : Nat) (w : World) (hd : depthE t ≤ 4000) (hs : sizeE t ≤ 1000000) (ht : tameE 1099511627776 1099511627776 t) (hI : EIn w Any t A) :
    Calls Try.prog 19 #[ev t A c] w fun e w' => e = .returned (.int .i64 (fansL (ofE t))) ∧ Below w.heap.size w w' := by
  have HBD := Lib.hid (fun i : Nat => fans_take_ok hs i)
  obtain ⟨k, n, s, l⟩ := t
  have hb : Below w.heap.size w (w.alloc (.cells #[.int .i64 k, .int .i64 n, .string s, .slice A l.length (capF l.length c)] 24)) := (Below.refl _ w).alloc (Nat.le_refl _) _
  have HM := Lib.hid (rOf_all (.node k n s l) A c (w.alloc (.cells #[.int .i64 k, .int .i64 n, .string s, .slice A l.length (capF l.length c)] 24)) hd hs ht (EIn.below _ hI hb (Nat.le_refl _)))
  have hlen := ofE_len (.node k n s l)
  obtain ⟨xs, hxs⟩ : ∃ xs, xs = ofE (.node k n s l) := ⟨_, rfl⟩
  rw [← hxs] at HM HBD hlen ⊢
  have HXE := Lib.hid hxs
  clear hI hxs
  show Calls Try.prog 19 #[.agg #[.int .i64 k, .int .i64 n, .string s, .slice A l.length (capF l.length c)]] w _
  go_enter Try.func19, Try.ntmps19
  go_wp2_with fail
  refine HM.out.mono ?_
  rintro e u2 ⟨A2, c2, rfl, hr2, hb2⟩
  have HR2 := Lib.hid hr2
  have hB2 : Below w.heap.size w u2 := hb.trans (hb2.mono hb.size)
  obtain ⟨m, hm⟩ : ∃ m, m = xs.length := ⟨_, rfl⟩
  rw [← hm]
  have hm1 : m ≤ xs.length := by omega
  have hm2 : xs.length ≤ m := by omega
  clear hm hr2
  go_wp2_with fail
  go_loopw [3, 5] (fun v x wr => ∃ i : Nat, i ≤ m ∧ x = .int .i64 i ∧ v = .int .i64 (fansL (xs.take i)) ∧ Below u2.heap.size u2 wr) (fun _ x _ => m - (intOf x).toNat)
  case atStart => exact ⟨0, by omega, rfl, by simp [fansL], Below.refl _ _⟩
  case round =>
    obtain ⟨i, hi, rfl, rfl, hbr⟩ := hrel
    by_cases hlt : i < m
    · have hix : i < xs.length := by omega
      obtain ⟨g, o, rfl, d0⟩ := HR2.out i hix
      have hgl := World.block_lt_of_cell? u2 _ d0
      replace d0 := (hbr.cell (p := ⟨g, o + i, none⟩) hgl).trans d0
      have HS : Hid (fansL (xs.take (i + 1)) = fansL (xs.take i) + max ((xs[i]'hix) - 1) 0) := Lib.hid (by rw [List.take_succ_eq_append_getElem hix, fansL_snoc])
      have hb0 := HBD.out i
      have hb1 := HBD.out (i + 1)
      obtain ⟨x, hx⟩ : ∃ x, x = xs[i]'hix := ⟨_, rfl⟩
      rw [← hx] at d0 HS
      have hs0 := HS.out
      clear hx
      obtain ⟨F, hF⟩ : ∃ F, F = fansL (xs.take i) := ⟨_, rfl⟩
      obtain ⟨F2, hF2⟩ : ∃ F, F = fansL (xs.take (i + 1)) := ⟨_, rfl⟩
      rw [← hF] at hb0 HS hs0 ⊢
      rw [← hF2] at hb1 HS hs0
      have HF2 := Lib.hid hF2
      clear hF hF2
      by_cases hx1 : 1 < x
      · have hv : F2 = F + (x - 1) := by omega
        clear hs0
        go_wp2_with fail
        go_roundw
        case rel => exact ⟨i + 1, by omega, by go_num, by rw [← HF2.out, hv], hbr⟩
        case measure => simp [intOf]; omega
      · have hv : F2 = F := by omega
        clear hs0
        go_wp2_with fail
        go_roundw
        case rel => exact ⟨i + 1, by omega, by go_num, by rw [← HF2.out, hv], hbr⟩
        case measure => simp [intOf]; omega
    · go_wp2_with fail
      go_ret
      have hi9 : i = xs.length := by omega
      refine ⟨?_, hB2.trans (hbr.mono hB2.size)⟩
      rw [hi9, List.take_length]
      rfl
set_option maxHeartbeats 4000000 in
theorem rDrops_any (t : Te) (A : Option Addr) (c : Nat) (w : World) (hd : depthE t ≤ 4000) (hs : sizeE t ≤ 1000000) (ht : tameE 1099511627776 1099511627776 t) (hI : EIn w Any t A) :
    Calls Try.prog 22 #[ev t A c] w fun e w' => e = .returned (.int .i64 (dropsL (ofE t))) ∧ Below w.heap.size w w' := by
  have HBD := Lib.hid (fun i : Nat => drops_take_ok hs i)
  obtain ⟨k, n, s, l⟩ := t
  have hb : Below w.heap.size w (w.alloc (.cells #[.int .i64 k, .int .i64 n, .string s, .slice A l.length (capF l.length c)] 24)) := (Below.refl _ w).alloc (Nat.le_refl _) _
  have HM := Lib.hid (rOf_all (.node k n s l) A c (w.alloc (.cells #[.int .i64 k, .int .i64 n, .string s, .slice A l.length (capF l.length c)] 24)) hd hs ht (EIn.below _ hI hb (Nat.le_refl _)))
  have hlen := ofE_len (.node k n s l)
  obtain ⟨xs, hxs⟩ : ∃ xs, xs = ofE (.node k n s l) := ⟨_, rfl⟩
  rw [← hxs] at HM HBD hlen ⊢
  have HXE := Lib.hid hxs
  clear hI hxs
  show Calls Try.prog 22 #[.agg #[.int .i64 k, .int .i64 n, .string s, .slice A l.length (capF l.length c)]] w _
  go_enter Try.func22, Try.ntmps22
  go_wp2_with fail
  refine HM.out.mono ?_
  rintro e u2 ⟨A2, c2, rfl, hr2, hb2⟩
  have HR2 := Lib.hid hr2
  have hB2 : Below w.heap.size w u2 := hb.trans (hb2.mono hb.size)
  obtain ⟨m, hm⟩ : ∃ m, m = xs.length := ⟨_, rfl⟩
  rw [← hm]
  have hm1 : m ≤ xs.length := by omega
  have hm2 : xs.length ≤ m := by omega
  clear hm hr2
  go_wp2_with fail
  go_loopw [3, 5] (fun v x wr => ∃ i : Nat, i ≤ m ∧ x = .int .i64 i ∧ v = .int .i64 (dropsL (xs.take i)) ∧ Below u2.heap.size u2 wr) (fun _ x _ => m - (intOf x).toNat)
  case atStart => exact ⟨0, by omega, rfl, by simp [dropsL], Below.refl _ _⟩
  case round =>
    obtain ⟨i, hi, rfl, rfl, hbr⟩ := hrel
    by_cases hlt : i < m
    · have hix : i < xs.length := by omega
      obtain ⟨g, o, rfl, d0⟩ := HR2.out i hix
      have hgl := World.block_lt_of_cell? u2 _ d0
      replace d0 := (hbr.cell (p := ⟨g, o + i, none⟩) hgl).trans d0
      have HS : Hid (dropsL (xs.take (i + 1)) = dropsL (xs.take i) + (if (xs[i]'hix) = 0 then 1 else 0)) := Lib.hid (by rw [List.take_succ_eq_append_getElem hix, dropsL_snoc])
      have hb0 := HBD.out i
      have hb1 := HBD.out (i + 1)
      obtain ⟨x, hx⟩ : ∃ x, x = xs[i]'hix := ⟨_, rfl⟩
      rw [← hx] at d0 HS
      have hs0 := HS.out
      clear hx
      obtain ⟨F, hF⟩ : ∃ F, F = dropsL (xs.take i) := ⟨_, rfl⟩
      obtain ⟨F2, hF2⟩ : ∃ F, F = dropsL (xs.take (i + 1)) := ⟨_, rfl⟩
      rw [← hF] at hb0 HS hs0 ⊢
      rw [← hF2] at hb1 HS hs0
      have HF2 := Lib.hid hF2
      clear hF hF2
      by_cases hx0 : x = 0
      · have hx1 : (x == 0) = true := by simp [hx0]
        have hv : F2 = F + 1 := by rw [if_pos hx0] at hs0; exact hs0
        clear hs0 hx0
        go_wp2_with fail
        go_roundw
        case rel => exact ⟨i + 1, by omega, by go_num, by rw [← HF2.out, hv], hbr⟩
        case measure => simp [intOf]; omega
      · have hx1 : (x == 0) = false := by simp [hx0]
        have hv : F2 = F := by rw [if_neg hx0] at hs0; omega
        clear hs0 hx0
        go_wp2_with fail
        go_roundw
        case rel => exact ⟨i + 1, by omega, by go_num, by rw [← HF2.out, hv], hbr⟩
        case measure => simp [intOf]; omega
    · go_wp2_with fail
      go_ret
      have hi9 : i = xs.length := by omega
      refine ⟨?_, hB2.trans (hbr.mono hB2.size)⟩
      rw [hi9, List.take_length]
      rfl
/-- A number put at its place. -/
def insR (n : Int) : List Int → List Int
  | [] => [n]
  | y :: r => if n ≤ y then n :: ((if y = n then [] else [y]) ++ r.filter (fun x => decide (x ≠ n))) else y :: insR n r
theorem wFold_true (n : Int) : ∀ (r out : List Int), r.foldl (wStep n) (out, true) = (out ++ r.filter (fun x => decide (x ≠ n)), true)
  | [], out => by simp
  | y :: r, out => by
    rw [List.foldl_cons]
    have : wStep n (out, true) y = (out ++ (if y = n then [] else [y]), true) := by simp [wStep]
    rw [this, wFold_true n r]
    by_cases h : y = n <;> simp [h]
theorem insL_gen (n : Int) : ∀ (r out : List Int), (r.foldl (wStep n) (out, false)).1 ++ (if (r.foldl (wStep n) (out, false)).2 then [] else [n]) = out ++ insR n r
  | [], out => by simp [insR]
  | y :: r, out => by
    by_cases h : n ≤ y
    · have e : wStep n (out, false) y = (out ++ [n] ++ (if y = n then [] else [y]), true) := by simp [wStep, h]
      simp only [List.foldl_cons, e, wFold_true, insR, if_pos h]
      simp
    · have h2 : y ≠ n := by omega
      have e : wStep n (out, false) y = (out ++ [y], false) := by simp [wStep, h, h2]
      have := insL_gen n r (out ++ [y])
      simp only [List.foldl_cons, e, insR, if_neg h]
      rw [this]
      simp
theorem insL_eq (xs : List Int) (n : Int) : insL xs n = insR n xs := by
  have := insL_gen n xs []
  rw [insL, wFold, this]
  rfl
theorem insR_mem (n : Int) : ∀ (xs : List Int) (x : Int), x ∈ insR n xs ↔ x = n ∨ x ∈ xs
  | [], x => by simp [insR]
  | y :: r, x => by
    rw [insR]
    by_cases h : n ≤ y
    · rw [if_pos h]
      by_cases hy : y = n
      · by_cases hx : x = n <;> simp [hy, hx]
      · by_cases hx : x = n <;> simp [hy, hx]
    · rw [if_neg h, List.mem_cons, insR_mem n r x, List.mem_cons]
      constructor
      · rintro (h | h | h) <;> simp [h]
      · rintro (h | h | h) <;> simp [h]
theorem insR_strict (n : Int) : ∀ (xs : List Int), xs.Pairwise (· < ·) → (insR n xs).Pairwise (· < ·)
  | [], _ => by simp [insR]
  | y :: r, h => by
    rw [List.pairwise_cons] at h
    rw [insR]
    have hf : (r.filter (fun x => decide (x ≠ n))).Pairwise (· < ·) := h.2.filter _
    by_cases hn : n ≤ y
    · rw [if_pos hn]
      by_cases hy : y = n
      · rw [if_pos hy, List.nil_append, List.pairwise_cons]
        exact ⟨fun x hx => by have := h.1 x ((List.mem_filter.1 hx).1); omega, hf⟩
      · rw [if_neg hy, List.singleton_append, List.pairwise_cons, List.pairwise_cons]
        refine ⟨fun x hx => ?_, fun x hx => h.1 x ((List.mem_filter.1 hx).1), hf⟩
        rcases List.mem_cons.1 hx with rfl | hx
        · omega
        · have := h.1 x ((List.mem_filter.1 hx).1); omega
    · rw [if_neg hn, List.pairwise_cons]
      refine ⟨fun x hx => ?_, insR_strict n r h.2⟩
      rcases (insR_mem n r x).1 hx with rfl | hx
      · omega
      · exact h.1 x hx
theorem rf_strict : ∀ (ys xs : List Int), xs.Pairwise (· < ·) → (ys.foldl insL xs).Pairwise (· < ·)
  | [], _, h => h
  | y :: r, xs, h => by rw [List.foldl_cons]; exact rf_strict r _ (by rw [insL_eq]; exact insR_strict y xs h)
theorem rf_mem : ∀ (ys xs : List Int) (x : Int), x ∈ ys.foldl insL xs ↔ x ∈ ys ∨ x ∈ xs
  | [], _, _ => by simp
  | y :: r, xs, x => by
    rw [List.foldl_cons, rf_mem r, insL_eq, insR_mem, List.mem_cons]
    constructor
    · rintro (h | h | h) <;> simp [h]
    · rintro ((h | h) | h) <;> simp [h]
theorem free_same (t : Te) : freeE t = rfreeE t := once_eq (fvE t 0) (rfreeE t) (rf_strict _ _ List.Pairwise.nil) fun x => by
  rw [rfreeE, rfE, rf_mem]
  simp
end Lx
end Go.Proofs.Ytcefopaphaeejaa
