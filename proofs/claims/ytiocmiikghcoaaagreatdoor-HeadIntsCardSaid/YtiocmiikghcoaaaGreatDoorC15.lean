/-
  Texts that lie one behind the other: SuPm SuPn SuPi He HdF HdG HdH HdJ.
-/
import Derived.Test.YtiocmiikghcoaaaGreatDoorC14
import Derived.Test.YtiocmiikghcoaaaGreatDoorC13
import Derived.Test.YtiocmiikghcoaaaGreatDoorC1
import Derived.Test.YtiocmiikghcoaaaGreatDoorC7
import Derived.Maps.AppendAt
import Derived.Deep.RegionHeld3
import Derived.Deep.DrawnRows
namespace Go.Proofs.YtiocmiikghcoaaaGreatDoor
namespace Lx
set_option maxRecDepth 100000
theorem head_var {n free : Int} {s : ByteArray} {m : Nat} {alt : Bool} (h : headR 1 n s m free alt = true) : 0 ≤ n ∧ n < free ∧ m = 0 ∧ alt = false := by
 cases alt <;> simp [headR] at h
 exact ⟨h.2.2.1, h.2.2.2, h.2.1, rfl⟩
theorem head_free {k n f g : Int} {s : ByteArray} {m : Nat} {alt : Bool} (hk : k ≠ 1) : headR k n s m f alt = headR k n s m g alt := by
 simp [headR, hk]
mutual
theorem may_cl : ∀ (t : Te) (f : Int) (a : Bool), mayQ t f a = true → clE t f
 | .node k n s l, f, a, h => by
  rw [mayQ, Bool.and_eq_true, Bool.and_eq_true] at h
  obtain ⟨h0, h1, h2⟩ := h
  rw [clE]
  refine ⟨fun e => ?_, fun e => (head_facts h1).1 e, may_clL k [] l _ h2⟩
  subst e
  have := head_var h1
  exact ⟨this.1, this.2.1, List.eq_nil_of_length_eq_zero this.2.2.1⟩
theorem may_clL (k : Int) : ∀ (met l : List Te) (f : Int), mayQL k met l f = true → clEL l f
 | _, [], _, _ => by rw [clEL]; trivial
 | met, t :: r, f, h => by
  rw [mayQL, Bool.and_eq_true, Bool.and_eq_true] at h
  rw [clEL]
  exact ⟨may_cl t f _ h.1, may_clL k _ r f h.2.2⟩
end
theorem usesE_lam (t : Te) (k : Int) : usesE (lamE t) k = usesE t (k + 1) := by simp [lamE, usesE, usesEL, moreE]
theorem usesE_app (t u : Te) (k : Int) : usesE (appE t u) k = usesE t k + usesE u k := by simp [appE, usesE, usesEL, moreE]
theorem putE_lam (t x : Te) (k : Int) (ht : wfE t) (hx : wfE x) : putE (lamE t) k x = lamE (putE t (k + 1) (upE x 1 0)) := by
 have h := put_lam ht hx k
 simp [lamE, putE, chE, chEL, moreE] at h ⊢
 exact h
theorem putE_app (t u x : Te) (k : Int) : putE (appE t u) k x = appE (putE t k x) (putE u k x) := by simp [appE, putE, chE, chEL, moreE]
mutual
theorem up_size : ∀ (t : Te) (u f : Int), wfE t → sizeE (chE (upF u) t f) = sizeE t
 | .node k n s l, u, f, h => by
  rw [wfE] at h
  rw [chE]
  split
  ·rename_i hk
   rw [h.1 hk]; simp [upF, sizeE, sizeEL]
  ·rw [sizeE, sizeE, up_sizeL l u _ h.2.2]
theorem up_sizeL : ∀ (l : List Te) (u f : Int), wfEL l → sizeEL (chEL (upF u) l f) = sizeEL l
 | [], _, _, _ => by rw [chEL]
 | t :: r, u, f, h => by rw [wfEL] at h; rw [chEL, sizeEL, sizeEL, up_size t u f h.1, up_sizeL r u f h.2]
end
mutual
theorem put_size : ∀ (t : Te) (k : Int) (x : Te) (b : Int), wfE x → wfE t → sizeE (chE (putF k x) t b) + usesE t (k + b) = sizeE t + usesE t (k + b) * sizeE x
 | .node k' n s l, k, x, b, hx, h => by
  rw [wfE] at h
  rw [chE, usesE]
  split
  ·rename_i hk
   rw [h.1 hk, putF]
   split
   ·rw [upE, up_size x b 0 hx]; simp [sizeE, sizeEL]; omega
   ·simp [sizeE, sizeEL]
  ·have := put_sizeL l k x (b + moreE k' n) hx h.2.2
   rw [sizeE, sizeE, show k + b + moreE k' n = k + (b + moreE k' n) by omega]
   omega
theorem put_sizeL : ∀ (l : List Te) (k : Int) (x : Te) (b : Int), wfE x → wfEL l → sizeEL (chEL (putF k x) l b) + usesEL l (k + b) = sizeEL l + usesEL l (k + b) * sizeE x
 | [], _, _, _, _, _ => by simp [chEL, usesEL, sizeEL]
 | t :: r, k, x, b, hx, h => by
  rw [wfEL] at h
  have h1 := put_size t k x b hx h.1
  have h2 := put_sizeL r k x b hx h.2
  rw [chEL, sizeEL, sizeEL, usesEL, Nat.add_mul]
  omega
end
mutual
theorem put_none : ∀ (t : Te) (k : Int) (x y : Te) (b : Int), usesE t (k + b) = 0 → chE (putF k x) t b = chE (putF k y) t b
 | .node k' n s l, k, x, y, b, h => by
  rw [usesE] at h
  rw [chE.eq_1 (putF k x), chE.eq_1 (putF k y)]
  split
  ·rename_i hk
   rw [if_pos hk] at h
   have hn : ¬ n = k + b := by intro e; rw [if_pos e] at h; omega
   rw [putF, putF, if_neg hn, if_neg hn]
  ·rename_i hk
   rw [if_neg hk] at h
   rw [put_noneL l k x y (b + moreE k' n) (by rw [show k + (b + moreE k' n) = k + b + moreE k' n by omega]; exact h)]
theorem put_noneL : ∀ (l : List Te) (k : Int) (x y : Te) (b : Int), usesEL l (k + b) = 0 → chEL (putF k x) l b = chEL (putF k y) l b
 | [], _, _, _, _, _ => by rw [chEL, chEL]
 | t :: r, k, x, y, b, h => by
  rw [usesEL] at h
  rw [chEL.eq_2 (putF k x), chEL.eq_2 (putF k y), put_none t k x y b (by omega), put_noneL r k x y b (by omega)]
end
theorem ch_name (F : Int → ByteArray → Int → Te) (t : Te) (b : Int) (h : t.kind ≠ 1) : (chE F t b).name = t.name := by
 obtain ⟨k, n, s, l⟩ := t
 rw [chE, if_neg (show ¬ k = 1 from h)]; rfl
theorem dup_ch (F : Int → ByteArray → Int → Te) (b : Int) (s : ByteArray) : ∀ met : List Te, (∀ t ∈ met, t.kind ≠ 1) → dupAt (met.map (chE F · b)) s = dupAt met s
 | [], _ => rfl
 | t :: r, h => by
  have := dup_ch F b s r fun u hu => h u (by simp [hu])
  simp only [dupAt, List.map_cons, List.any_cons] at this ⊢
  rw [this, ch_name F t b (h t (by simp))]
theorem may_kind {t : Te} {f : Int} (h : mayQ t f true = true) : t.kind = 6 := by
 obtain ⟨k, n, s, l⟩ := t
 rw [mayQ, Bool.and_eq_true, Bool.and_eq_true] at h
 have := h.2.1
 simp [headR] at this
 exact this.1
mutual
theorem may_ch {F : Int → ByteArray → Int → Te} {p f f' : Int} (hf : 0 ≤ f') (hv : ∀ n s b, 0 ≤ b → headR 1 n s 0 (f + b) false = true → mayQ (F n s (p + b)) (f' + b) false = true) :
  ∀ (t : Te) (b : Int) (a : Bool), 0 ≤ b → mayQ t (f + b) a = true → mayQ (chE F t (p + b)) (f' + b) a = true
 | .node k n s l, b, a, hb, h => by
  rw [mayQ, Bool.and_eq_true, Bool.and_eq_true] at h
  obtain ⟨h0, h1, h2⟩ := h
  by_cases hk : k = 1
  ·subst hk
   have hq := head_var h1
   rw [hq.2.2.2, hq.2.2.1] at h1
   rw [chE, if_pos rfl, hq.2.2.2]
   exact hv n s b hb h1
  ·have hm := more_nn (fun e => ((head_facts h1).1 e).1)
   have := may_chL hf hv k [] l (b + moreE k n) (by omega) (by simp) (by rw [show f + (b + moreE k n) = f + b + moreE k n by omega]; exact h2)
   rw [show p + (b + moreE k n) = p + b + moreE k n by omega, show f' + (b + moreE k n) = f' + b + moreE k n by omega] at this
   rw [chE, if_neg hk, mayQ, chEL_length, head_free (g := f + b) hk, h1, decide_eq_true (by omega : 0 ≤ f' + b)]
   simpa using this
theorem may_chL {F : Int → ByteArray → Int → Te} {p f f' : Int} (hf : 0 ≤ f') (hv : ∀ n s b, 0 ≤ b → headR 1 n s 0 (f + b) false = true → mayQ (F n s (p + b)) (f' + b) false = true) (k : Int) :
  ∀ (met l : List Te) (b : Int), 0 ≤ b → (k = 5 → ∀ t ∈ met.drop 1, t.kind ≠ 1) → mayQL k met l (f + b) = true → mayQL k (met.map (chE F · (p + b))) (chEL F l (p + b)) (f' + b) = true
 | _, [], _, _, _, _ => by rw [chEL, mayQL]
 | met, t :: r, b, hb, hm, h => by
  rw [mayQL, Bool.and_eq_true, Bool.and_eq_true] at h
  obtain ⟨h1, h2, h3⟩ := h
  have e1 := may_ch hf hv t b _ hb h1
  have e3 := may_chL hf hv k (met ++ [t]) r b hb (fun h5 u hu => by
   cases met with
   | nil => simp at hu
   | cons a q =>
    simp only [List.cons_append, List.drop_succ_cons, List.drop_zero, List.mem_append, List.mem_singleton] at hu
    rcases hu with hu | rfl
    ·exact hm h5 u (by simpa using hu)
    ·rw [h5] at h1
     have := may_kind (t := u) (f := f + b) (by simpa using h1)
     omega) h3
  rw [chEL, mayQL, Bool.and_eq_true, Bool.and_eq_true]
  refine ⟨by simpa using e1, ?_, by simpa using e3⟩
  by_cases h5 : k = 5
  ·subst h5
   cases met with
   | nil => simp [dupAt]
   | cons a q =>
    have hq : 0 < (a :: q).length := by simp
    have hk6 := may_kind (t := t) (f := f + b) (by simpa using h1)
    rw [ch_name F t (p + b) (by omega)]
    have := dup_ch F (p + b) t.name q (fun u hu => hm rfl u (by simpa using hu))
    simp only [List.map_cons, List.drop_succ_cons, List.drop_zero] at h2 ⊢
    rw [this]
    exact h2
  ·simp [h5]
end
theorem may_up {t : Te} {f u : Int} (hf : 0 ≤ f) (hu : 0 ≤ u) (h : mayQ t f false = true) : mayQ (upE t u 0) (f + u) false = true := by
 have := may_ch (F := upF u) (p := 0) (f := f) (f' := f + u) (by omega) (fun n s b hb h => by
  have hq := head_var h
  have hs : s.toList.isEmpty = true := by simp only [headR] at h; simp at h; exact by simpa using h.1
  rw [upF, mayQ, mayQL]
  simp [headR, hs]
  split <;> omega) t 0 false (by omega) (by simpa using h)
 simpa [upE] using this
theorem may_put {t x : Te} {f k : Int} (hf : 0 ≤ f) (hk : 0 ≤ k) (hkf : k ≤ f) (ht : mayQ t (f + 1) false = true) (hx : mayQ x f false = true) : mayQ (putE t k x) f false = true := by
 have := may_ch (F := putF k x) (p := 0) (f := f + 1) (f' := f) hf (fun n s b hb h => by
  have hq := head_var h
  have hs : s.toList.isEmpty = true := by simp only [headR] at h; simp at h; exact by simpa using h.1
  rw [putF]
  split
  ·rw [Int.zero_add]; exact may_up hf hb hx
  ·rw [mayQ, mayQL]
   simp [headR, hs]
   split <;> omega) t 0 false (by omega) (by simpa using ht)
 simpa [putE] using this
theorem v_inst (l : List Te) (n : Int) (s : ByteArray) (b : Int) : chE (instF l) (.node 1 n s []) b = instF l n s b := by rw [chE, if_pos rfl]
theorem lastE_snoc0 (l : List Te) (x : Te) : lastE (l ++ [x]) 0 = x := by simp [lastE, List.getD_eq_getElem?_getD]
theorem lastE_snoc (l : List Te) (x : Te) (i : Nat) (h : i < l.length) : lastE (l ++ [x]) (i + 1) = lastE l i := by
 rw [lastE, lastE, List.getD_eq_getElem?_getD, List.getD_eq_getElem?_getD, List.length_append, List.length_singleton, show l.length + 1 - 1 - (i + 1) = l.length - 1 - i by omega, List.getElem?_append_left (by omega)]
theorem inst_past {x : Te} (hw : wfE x) (l : List Te) (b : Int) (hb : 0 ≤ b) : chE (instF l) (chE (upF (l.length + b)) x 0) b = chE (upF b) x 0 := by
 have := ch_comp (F := upF (l.length + b)) (G := instF l) (H := upF b) (p := 0) (q := b) (r := 0) (fun n s d hd => by
  rw [upF, v_inst, instF, upF, if_neg (show ¬ (b + d ≤ (if 0 + d ≤ n then n + (↑l.length + b) else n) ∧ (if 0 + d ≤ n then n + (↑l.length + b) else n) < b + d + ↑l.length) by split <;> omega)]
  congr 1; (repeat' split) <;> omega) x 0 (by omega) hw
 simpa using this
theorem inst_step {t x : Te} (ht : wfE t) (hx : wfE x) (l : List Te) : instE t (l ++ [x]) = instE (putE t 0 (upE x l.length 0)) l := by
 have := ch_comp (F := putF 0 (upE x l.length 0)) (G := instF l) (H := instF (l ++ [x])) (p := 0) (q := 0) (r := 0) (fun n s b hb => by
  simp only [Int.zero_add]
  have hlen : ((l ++ [x]).length : Int) = l.length + 1 := by simp
  have L : putF 0 (upE x l.length 0) n s b = (if n = b then upE (upE x l.length 0) b 0 else .node 1 (if b < n then n - 1 else n) s []) := by rw [putF, Int.zero_add]
  rw [L, instF, hlen]
  by_cases h0 : n = b
  ·rw [if_pos h0, if_pos (show b ≤ n ∧ n < b + (↑l.length + 1) by omega), upE, upE, up_up hx _ b 0 (by omega) (by omega), inst_past hx l b hb, show (n - b).toNat = 0 by omega, lastE_snoc0, upE]
  ·rw [if_neg h0, v_inst, instF]
   by_cases h1 : b < n
   ·rw [if_pos h1]
    by_cases h2 : n < b + (l.length + 1)
    ·rw [if_pos (show b ≤ n - 1 ∧ n - 1 < b + ↑l.length by omega), if_pos (show b ≤ n ∧ n < b + (↑l.length + 1) by omega)]
     obtain ⟨i, hi⟩ : ∃ i : Nat, (n - b).toNat = i + 1 := ⟨(n - b).toNat - 1, by omega⟩
     rw [hi, lastE_snoc l x i (by omega), show (n - 1 - b).toNat = i by omega]
    ·rw [if_neg (show ¬ (b ≤ n - 1 ∧ n - 1 < b + ↑l.length) by omega), if_neg (show ¬ (b ≤ n ∧ n < b + (↑l.length + 1)) by omega)]
     congr 1; (repeat' split) <;> omega
   ·rw [if_neg h1, if_neg (show ¬ (b ≤ n ∧ n < b + ↑l.length) by omega), if_neg (show ¬ (b ≤ n ∧ n < b + (↑l.length + 1)) by omega), if_neg h1, if_neg h1]) t 0 (by omega) ht
 simpa [instE, putE] using this.symm
theorem inst_nil {t : Te} (ht : wfE t) : instE t [] = t := by
 have h := ch_same t 0 ht
 have e : instF [] = fun n s _ => Te.node 1 n s [] := by
  funext n s b
  rw [instF, if_neg (by simp <;> omega)]
  simp
 rw [instE, e]
 exact h
theorem up_zero {t : Te} (ht : wfE t) : upE t 0 0 = t := by
 have e : upF 0 = fun n s _ => Te.node 1 n s [] := by
  funext n s b
  rw [upF]; simp
 rw [upE, e]
 exact ch_same t 0 ht
theorem inst_one {t x : Te} (ht : wfE t) (hx : wfE x) : instE t [x] = putE t 0 x := by
 have h := inst_step ht hx []
 rw [List.nil_append] at h
 rw [h, show (([] : List Te).length : Int) = 0 from rfl, up_zero hx]
 exact inst_nil (wf_put _ _ _ _ hx ht)
theorem may_node {k n : Int} {s : ByteArray} {l : List Te} {f : Int} {a : Bool} (h : mayQ (.node k n s l) f a = true) : headR k n s l.length f a = true ∧ mayQL k [] l (f + moreE k n) = true := by
 rw [mayQ, Bool.and_eq_true, Bool.and_eq_true] at h
 exact h.2
theorem may_len {k n : Int} {s : ByteArray} {l : List Te} {f : Int} {a : Bool} (h : mayQ (.node k n s l) f a = true) : (k = 2 → l.length = 1) ∧ (k = 3 ∨ k = 8 → l.length = 2) ∧ (k = 5 → 2 ≤ l.length) ∧ (k = 6 → l.length = 1 ∧ 0 ≤ n ∧ n ≤ 8 ∧ a = true) ∧ (k = 1 ∨ k = 7 ∨ k = 9 → l = []) ∧ l.length ≤ 9 := by
 have h1 := (may_node h).1
 have h9 := (head_facts h1).2
 cases a with
 | true =>
  simp [headR] at h1
  refine ⟨by omega, by omega, by omega, fun _ => ⟨h1.2.2.2.2, h1.2.2.1, h1.2.2.2.1, rfl⟩, by omega, h9⟩
 | false =>
  unfold headR at h1
  simp only [Bool.false_eq_true, if_false] at h1
  split at h1
  ·simp at h1; exact ⟨by omega, by omega, by omega, by omega, fun _ => h1.2.1, h9⟩
  ·split at h1
   ·simp at h1; exact ⟨fun _ => h1.2, by omega, by omega, by omega, by omega, h9⟩
   ·split at h1
    ·simp at h1; exact ⟨by omega, fun _ => h1.2, by omega, by omega, by omega, h9⟩
    ·split at h1
     ·exact ⟨by omega, by omega, by omega, by omega, by omega, h9⟩
     ·split at h1
      ·simp at h1; exact ⟨by omega, by omega, by omega, by omega, by omega, h9⟩
      ·split at h1
       ·simp at h1; exact ⟨by omega, by omega, by omega, by omega, fun _ => h1.2, h9⟩
       ·split at h1
        ·simp at h1; exact ⟨by omega, fun _ => h1.2.2, by omega, by omega, by omega, h9⟩
        ·split at h1
         ·simp at h1; exact ⟨by omega, by omega, by omega, by omega, fun _ => h1.2, h9⟩
         ·cases h1
theorem may_at (k : Int) : ∀ (met l : List Te) (f : Int) (i : Nat) (hi : i < l.length), mayQL k met l f = true → mayQ (l[i]'hi) f (decide (k = 5) && decide (0 < met.length + i)) = true
 | _, [], _, _, hi, _ => by simp at hi
 | met, t :: r, f, 0, _, h => by
  rw [mayQL, Bool.and_eq_true] at h
  simpa using h.1
 | met, t :: r, f, i + 1, hi, h => by
  rw [mayQL, Bool.and_eq_true, Bool.and_eq_true] at h
  have := may_at k (met ++ [t]) r f i (by simpa using hi) h.2.2
  rw [List.length_append, List.length_singleton, show met.length + 1 + i = met.length + (i + 1) by omega] at this
  simpa using this
theorem may_set0 {k : Int} {t x : Te} {r : List Te} {f : Int} (h : mayQL k [] (t :: r) f = true) (hx : mayQ x f false = true) : mayQL k [] (x :: r) f = true := by
 rw [mayQL, Bool.and_eq_true, Bool.and_eq_true] at h ⊢
 refine ⟨by simpa using hx, by simp [dupAt], ?_⟩
 have : ∀ (q r : List Te), mayQL k (t :: q) r f = true → mayQL k (x :: q) r f = true := by
  intro q r
  induction r generalizing q with
  | nil => intro _; rw [mayQL]
  | cons a r ih =>
   intro h
   rw [mayQL, Bool.and_eq_true, Bool.and_eq_true] at h ⊢
   exact ⟨by simpa using h.1, by simpa using h.2.1, ih (q ++ [a]) h.2.2⟩
 exact this [] r h.2.2
theorem may_set1 {k : Int} {t u x : Te} {f : Int} (hk : k ≠ 5) (h : mayQL k [] [t, u] f = true) (hx : mayQ x f false = true) : mayQL k [] [t, x] f = true := by
 simp only [mayQL, Bool.and_eq_true] at h ⊢
 exact ⟨h.1, by simp [hk], by simpa [hk] using hx, by simp [hk], trivial⟩
theorem wait_lt {t : Te} {i : Nat} {f : Int} {a : Bool} (hm : mayQ t f a = true) (h : waitE t = some i) : i < t.parts.length := by
 obtain ⟨k, n, s, l⟩ := t
 have hl := may_len hm
 have hk : k = 3 ∨ k = 5 ∨ k = 8 := (wait_kind h).2
 show i < l.length
 replace h : waitK k l = some i := h
 unfold waitK at h
 split at h
 ·split at h
  ·cases h
  ·cases h; omega
 ·split at h
  ·split at h
   ·split at h
    ·cases h
    ·cases h; omega
   ·split at h
    ·cases h
    ·cases h; omega
  ·cases h
theorem wait_one {t : Te} {i : Nat} (h : waitE t = some i) : i = 0 ∨ (i = 1 ∧ t.kind = 8) := by
 unfold waitE waitK at h
 split at h
 ·split at h
  ·cases h
  ·cases h; exact .inl rfl
 ·split at h
  ·rename_i h8
   split at h
   ·split at h
    ·cases h
    ·cases h; exact .inr ⟨rfl, h8⟩
   ·split at h
    ·cases h
    ·cases h; exact .inl rfl
  ·cases h
theorem more_wait {k n : Int} (h : k = 3 ∨ k = 5 ∨ k = 8) : moreE k n = 0 := by
 unfold moreE
 rw [if_neg (by omega), if_neg (by omega)]
theorem may_wait {t : Te} {i : Nat} {f : Int} (hm : mayQ t f false = true) (h : waitE t = some i) : mayQ (prt t.parts i) f false = true := by
 have hlt := wait_lt hm h
 have hk0 := (wait_kind h).2
 have h1 := wait_one h
 obtain ⟨k, n, s, l⟩ := t
 have hk : k = 3 ∨ k = 5 ∨ k = 8 := hk0
 have h2 := (may_node hm).2
 rw [more_wait hk, Int.add_zero] at h2
 have h3 := may_at k [] l f i hlt h2
 simp only [Te.parts, Te.kind] at hlt h1 ⊢
 rw [prt, List.getD_eq_getElem?_getD, List.getElem?_eq_getElem hlt]
 rcases h1 with rfl | ⟨rfl, h8⟩
 ·simpa using h3
 ·subst h8; simpa using h3
theorem may_setE {t x : Te} {i : Nat} {f : Int} (hm : mayQ t f false = true) (h : waitE t = some i) (hx : mayQ x f false = true) : mayQ (setE t i x) f false = true := by
 have hlt := wait_lt hm h
 have hk0 := (wait_kind h).2
 have h1 := wait_one h
 obtain ⟨k, n, s, l⟩ := t
 have hk : k = 3 ∨ k = 5 ∨ k = 8 := hk0
 have hl := may_len hm
 rw [mayQ, Bool.and_eq_true, Bool.and_eq_true] at hm
 obtain ⟨h0, hh, h2⟩ := hm
 simp only [Te.parts, Te.kind] at hlt h1
 rw [more_wait hk, Int.add_zero] at h2
 rw [setE]
 simp only [Te.kind, Te.n, Te.name, Te.parts]
 rw [mayQ, h0, List.length_set, hh, more_wait hk, Int.add_zero]
 rcases h1 with rfl | ⟨rfl, h8⟩
 ·cases l with
  | nil => simp at hlt
  | cons a r => simpa using may_set0 h2 hx
 ·have h9 := hl.2.1 (.inr h8)
  match l, h9 with
  | [a, b], _ => simpa using may_set1 (by omega) h2 hx
end Lx
end Go.Proofs.YtiocmiikghcoaaaGreatDoor
namespace Go.Proofs.YtiocmiikghcoaaaGreatDoor
open Go.RowKit
namespace Lx
set_option maxRecDepth 100000
structure PzE (f : Int) (T t : Te) (q : List (Te × Nat)) : Prop where
 plug : plugE t q.reverse = T
 path : pathE q
 may : mayQ t f false = true
 all : ∀ e ∈ q, mayQ e.1 f false = true
theorem pz_in {f : Int} {T t : Te} {q : List (Te × Nat)} {i : Nat} (h : PzE f T t q) (hw : waitE t = some i) : PzE f T (prt t.parts i) (q ++ [(t, i)]) ∧ valK (prt t.parts i).kind = false := by
 refine ⟨⟨?_, ?_, may_wait h.may hw, ?_⟩, wait_part hw⟩
 ·rw [List.reverse_append]
  show plugE (setE t i (prt t.parts i)) q.reverse = T
  rw [setE_prt]; exact h.plug
 ·intro e he
  rcases List.mem_append.1 he with he | he
  ·exact h.path e he
  ·simp only [List.mem_singleton] at he
   subst he
   exact ⟨hw, wait_lt h.may hw⟩
 ·intro e he
  rcases List.mem_append.1 he with he | he
  ·exact h.all e he
  ·simp only [List.mem_singleton] at he
   subst he
   exact h.may
theorem pz_out {f : Int} {T t u : Te} {q : List (Te × Nat)} {i : Nat} (h : PzE f T t (q ++ [(u, i)])) : PzE f T (setE u i t) q ∧ valK (setE u i t).kind = false ∧ i < u.parts.length ∧ mayQ u f false = true := by
 have h1 := h.path (u, i) (by simp)
 have h2 := h.all (u, i) (by simp)
 refine ⟨⟨?_, fun e he => h.path e (by simp [he]), may_setE h2 h1.1 h.may, fun e he => h.all e (by simp [he])⟩, ?_, h1.2, h2⟩
 ·have := h.plug
  rw [List.reverse_append] at this
  exact this
 ·rw [setE_kind]; exact (wait_kind h1.1).1
theorem depth_set {t x : Te} {i : Nat} (h : i < t.parts.length) : depthE x + 1 ≤ depthE (setE t i x) := by
 rw [setE, depthE]
 have := depthEL_mem (t.parts.set i x) x (List.mem_of_getElem? (i := i) (by rw [List.getElem?_set]; simp [h]))
 omega
theorem depth_plug : ∀ (p : List (Te × Nat)) (t : Te), pathE p → depthE t + p.length ≤ depthE (plugE t p)
 | [], t, _ => by simp [plugE]
 | (u, i) :: p, t, h => by
  have h1 := h (u, i) (by simp)
  have h2 := depth_plug p (setE u i t) (fun e he => h e (by simp [he]))
  have h3 := depth_set (t := u) (x := t) (i := i) h1.2
  rw [plugE]
  simp only [List.length_cons]
  omega
theorem pz_len {f : Int} {T t : Te} {q : List (Te × Nat)} (h : PzE f T t q) : depthE t + q.length ≤ depthE T := by
 have := depth_plug q.reverse t (fun e he => h.path e (by simpa using he))
 rw [h.plug, List.length_reverse] at this
 exact this
theorem waitp_split {o : Option Nat} {e : Ending} (h : WaitP o e) : ∃ (iv : Int) (bv : Bool), e = .returned (.tuple #[.int .i64 iv, .bool bv]) ∧ (bv = true → 0 ≤ iv ∧ o = some iv.toNat) ∧ (bv = false → o = none) := by
 cases o with
 | none => obtain ⟨i, h⟩ := h; exact ⟨i, false, h, fun h => (by cases h), fun _ => rfl⟩
 | some i => exact ⟨i, true, h, fun _ => ⟨by omega, by simp⟩, fun h => (by cases h)⟩
def aroLen (g : Nat) (w : World) : Nat := match w.cell? ⟨g, 4, none⟩ with | some (.slice _ n _) => n | _ => 0
theorem Zp.len {w : World} {g r : Nat} {t : Te} {q : List (Te × Nat)} {A : Option Addr} {c : Nat} {B : Option Addr} {bc : Nat} {xs : List Value} (h : Zp w g r t q A c B bc xs) : aroLen g w = q.length := by
 have := h.box.cell 4
 unfold aroLen
 rw [this]
 rfl
set_option maxHeartbeats 8000000 in
theorem seek_any (f : Int) (g r : Nat) (T t : Te) (q : List (Te × Nat)) (A : Option Addr) (c : Nat) (B : Option Addr) (bc : Nat) (xs : List Value) (w : World) (hz : Zp w g r t q A c B bc xs) (hp : PzE f T t q) (hD : depthE T ≤ 12000) (hrw : r < w.heap.size) :
  Calls Tryz.prog 23 #[.pointer (some ⟨g, 0, none⟩)] w fun e w' => e = .returned (.tuple #[]) ∧ (∃ t' q' A' c' B' bc' xs', Zp w' g r t' q' A' c' B' bc' xs' ∧ PzE f T t' q' ∧ waitE t' = none ∧ (valK t'.kind = true → q' = [])) ∧ Below g w w' ∧ w.heap.size ≤ w'.heap.size := by
 have hgw0 : g < w.heap.size := hz.box.lt
 obtain ⟨i0, hi0, hz1, hz2⟩ : ∃ i, Tryz.prog.info? 60 = some i ∧ i.size = 5 ∧ i.bytes = 64 := by
  have h := infoR
  cases hq : Tryz.prog.info? 60 with
  | none => rw [hq] at h; cases h
  | some i => rw [hq] at h; simp only [Option.map_some, Option.some.injEq, Prod.mk.injEq] at h; exact ⟨i, rfl, h.1, h.2⟩
 have hz0 : i0.zero = some (.agg #[.int .i64 0, .int .i64 0, .string ⟨#[]⟩, .slice none 0 0, .int .i64 0]) := by
  have h : (Tryz.prog.info? 60).map (fun i => i.zero) = some (some (.agg #[.int .i64 0, .int .i64 0, .string ⟨#[]⟩, .slice none 0 0, .int .i64 0])) := by kernel_rfl
  rw [hi0] at h; simpa using h
 have HZ0 := Lib.hid hz
 have HP0 := Lib.hid hp
 obtain ⟨nq, hnq⟩ : ∃ nq, nq = q.length := ⟨_, rfl⟩
 obtain ⟨tk, tn, ts, tl⟩ := t
 have hbx := hz.box
 rw [← hnq] at hbx
 simp only [Te.kind, Te.n, Te.name, Te.parts] at hbx
 have HNQ0 := Lib.hid hnq
 have HBX0 := Lib.hid hbx
 have y0 := hbx.cell 0
 have y1 := hbx.cell 1
 have y2 := hbx.cell 2
 have y3 := hbx.cell 3
 have y4 := hbx.cell 4
 simp at y0 y1 y2 y3 y4
 clear hz hp hnq hbx
 go_enter Tryz.func23, Tryz.ntmps23
 go_upto_region 0 with fail
 go_cut [16] from 4 (fun v wx => ∃ bb : Bool, v = .bool bb ∧ Hid (bb = true ↔ (valK tk = true ∧ 0 < nq)) ∧ Below w.heap.size w wx)
 case first =>
  have HI := Lib.hid (isDone_any tk tn ts A tl.length (capF tl.length c) w)
  cases hv : valK tk with
  | true =>
   rw [hv] at HI
   replace hv := Lib.hid hv
   by_cases hn : 0 < nq
   ·have hn1 : (0 : Int) < (nq : Int) := by omega
    go_wp2_with fail
    refine HI.out.mono ?_
    rintro e w2 ⟨rfl, hb2⟩
    have y5 := (hb2.cell (p := ⟨g, 4, none⟩) hgw0).trans y4
    go_wp2_with fail
    go_meet
    exact ⟨true, rfl, Lib.hid ⟨fun _ => ⟨hv.out, hn⟩, fun _ => rfl⟩, hb2⟩
   ·have hn1 : ¬ (0 : Int) < (nq : Int) := by omega
    go_wp2_with fail
    refine HI.out.mono ?_
    rintro e w2 ⟨rfl, hb2⟩
    have y5 := (hb2.cell (p := ⟨g, 4, none⟩) hgw0).trans y4
    go_wp2_with fail
    go_meet
    exact ⟨false, rfl, Lib.hid ⟨fun h => Bool.noConfusion h, fun h => absurd h.2 hn⟩, hb2⟩
  | false =>
   rw [hv] at HI
   replace hv := Lib.hid hv
   go_wp2_with fail
   refine HI.out.mono ?_
   rintro e w2 ⟨rfl, hb2⟩
   go_wp2_with fail
   go_meet
   exact ⟨false, rfl, Lib.hid ⟨fun h => Bool.noConfusion h, fun h => by rw [hv.out] at h; exact Bool.noConfusion h.1⟩, hb2⟩
 case rest =>
  obtain ⟨bb, rfl, HBB, hbc⟩ := hcut
  clear y0 y1 y2 y3 y4
  go_upto_if 16 with fail
  go_cut [] from 17 (fun wx => ∃ (t : Te) (q : List (Te × Nat)) (A : Option Addr) (c : Nat) (B : Option Addr) (bc : Nat) (xs : List Value), Hid (Zp wx g r t q A c B bc xs) ∧ Hid (PzE f T t q ∧ (valK t.kind = true → q = [])) ∧ Hid (Below g w wx) ∧ w.heap.size ≤ wx.heap.size)
  case first =>
   cases bb with
   | true =>
    have hb := HBB.out.1 rfl
    obtain ⟨q0, e, hqe⟩ : ∃ q0 e, q = q0 ++ [e] := by
     rcases List.eq_nil_or_concat q with h | ⟨q0, e, h⟩
     ·rw [h] at HNQ0; have := HNQ0.out; simp at this; omega
     ·exact ⟨q0, e, by simpa using h⟩
    obtain ⟨u, i⟩ := e
    subst hqe
    have ho := pz_out HP0.out
    have hl := (may_len (f := f) (a := false) (k := u.kind) (n := u.n) (s := u.name) (l := u.parts) (by cases u; exact ho.2.2.2)).2.2.2.2.2
    have hq9 := pz_len ho.1
    have HG := Lib.hid (goOut_any g r (.node tk tn ts tl) u i q0 A c B bc xs wc (HZ0.out.below hbc) ho.2.2.1 (by omega) (by omega) (by have := hbc.size; omega))
    have HO := Lib.hid ho
    clear ho hl hq9 hb
    go_wp2_with fail
    refine HG.out.mono ?_
    rintro e w2 ⟨rfl, ⟨A2, c2, bc2, xs2, hz2⟩, hb2, hs2, _⟩
    have HZ2 := Lib.hid hz2
    have HB2 := Lib.hid ((hbc.mono (by omega)).trans hb2)
    have hs3 := Nat.le_trans hbc.size hs2
    clear hz2 hb2
    go_wp2_with fail
    go_meet
    exact ⟨_, q0, A2, c2, B, bc2, xs2, HZ2, Lib.hid ⟨HO.out.1, fun h => by rw [HO.out.2.1] at h; exact Bool.noConfusion h⟩, HB2, hs3⟩
   | false =>
    have HZ2 := Lib.hid (HZ0.out.below hbc)
    have HB2 : Hid (Below g w wc) := Lib.hid (hbc.mono (by omega))
    have hs3 := hbc.size
    go_wp2_with fail
    go_meet
    refine ⟨_, q, A, c, B, bc, xs, HZ2, Lib.hid ⟨HP0.out, fun h => ?_⟩, HB2, hs3⟩
    by_cases hn : 0 < nq
    ·have := HBB.out.2 ⟨h, hn⟩; cases this
    ·exact List.eq_nil_of_length_eq_zero (by have := HNQ0.out; omega)
  case rest =>
   clear HZ0 HP0 HNQ0 HBX0 HBB hbc nq tk tn ts tl A c B bc xs q
   obtain ⟨t, q, A, c, B, bc, xs, HZ, HPZ, HBW, hsw⟩ := hcut
   have hb1 := HZ.out.box
   have HPL := may_len (f := f) (a := false) (k := t.kind) (n := t.n) (s := t.name) (l := t.parts) (by cases t; exact HPZ.out.1.may)
   obtain ⟨tk, tn, ts, tl⟩ := t
   simp only [Te.kind, Te.n, Te.name, Te.parts] at hb1 HPL
   have HW := Lib.hid (waits_any tk tn ts tl A tl.length (capF tl.length c) wc rfl (by have := HZ.out.ein; rw [EIn] at this; exact ELIn.keep _ this.2.2 fun _ _ _ _ => ⟨rfl, trivial⟩) (by omega))
   have y0 := hb1.cell 0
   have y1 := hb1.cell 1
   have y2 := hb1.cell 2
   have y3 := hb1.cell 3
   simp at y0 y1 y2 y3
   clear hb1 HPL
   go_wp2_with fail
   refine HW.out.mono ?_
   rintro e w9 ⟨hwp, hb9⟩
   have HZ9 := Lib.hid (HZ.out.below hb9)
   have HB9 := Lib.hid (HBW.out.trans (hb9.mono (by have := HZ.out.box.lt; omega)))
   have hs9 : w.heap.size ≤ w9.heap.size := Nat.le_trans hsw hb9.size
   clear hb9 y0 y1 y2 y3 hsw HW HZ HBW
   obtain ⟨iv, bv, rfl, hiv⟩ := waitp_split hwp
   have HIV : Hid ((bv = true → 0 ≤ iv ∧ waitE (.node tk tn ts tl) = some iv.toNat) ∧ (bv = false → waitE (.node tk tn ts tl) = none)) := Lib.hid hiv
   clear hwp hiv
   go_wp2_with fail
   go_loopw [2, 3] (fun v x wr => ∃ (t : Te) (q : List (Te × Nat)) (A : Option Addr) (c : Nat) (B : Option Addr) (bc : Nat) (xs : List Value) (iv : Int) (bv : Bool), v = .int .i64 iv ∧ x = .bool bv ∧ Hid ((bv = true → 0 ≤ iv ∧ waitE t = some iv.toNat) ∧ (bv = false → waitE t = none)) ∧ Hid (Zp wr g r t q A c B bc xs) ∧ Hid (PzE f T t q ∧ (valK t.kind = true → q = [])) ∧ Hid (Below g w wr) ∧ w.heap.size ≤ wr.heap.size) (fun _ _ wr => depthE T - aroLen g wr)
   case atStart => exact ⟨.node tk tn ts tl, q, A, c, B, bc, xs, iv, bv, rfl, rfl, HIV, HZ9, HPZ, HB9, hs9⟩
   case round =>
    clear HIV HZ9 HPZ HB9 hs9
    obtain ⟨t, q, A, c, B, bc, xs, iv, bv, rfl, rfl, HIV, HZ, HPZ0, HBW, hsw⟩ := hrel
    cases bv with
    | true =>
     obtain ⟨i, hie⟩ : ∃ i : Nat, iv = (i : Int) := ⟨iv.toNat, by have := (HIV.out.1 rfl).1; omega⟩
     have HWT : Hid (waitE t = some i) := Lib.hid (by have := (HIV.out.1 rfl).2; rw [this, hie]; simp)
     subst hie
     have hil := wait_lt HPZ0.out.1.may HWT.out
     have hlen := HZ.out.len
     have hpl := pz_len HPZ0.out.1
     have hpl2 := pz_len (pz_in HPZ0.out.1 HWT.out).1
     have hdp := depthE_pos (prt t.parts i)
     rw [List.length_append, List.length_singleton] at hpl2
     have HMS : Hid (∀ w9 : World, aroLen g w9 = q.length + 1 → depthE T - aroLen g w9 < depthE T - aroLen g wr) := Lib.hid fun w9 h => by omega
     have hnq9 : q.length ≤ 12000 := by omega
     have HPZ := Lib.hid HPZ0.out.1
     have hbx := HZ.out.box
     have hown9 := HZ.out.own
     obtain ⟨nq, hnq⟩ : ∃ nq, nq = q.length := ⟨_, rfl⟩
     rw [← hnq] at hbx hown9 hnq9
     have HNQ := Lib.hid hnq
     have HRO := Lib.hid HZ.out.row
     have HET := Lib.hid HZ.out.ein
     have hbr := HBW.out
     obtain ⟨tk, tn, ts, tl⟩ := t
     simp only [Te.kind, Te.n, Te.name, Te.parts] at hbx hil
     have HBX := Lib.hid hbx
     have hgw := hbx.lt
     have hlto := hown9.lt
     have hgwr : g ≤ wr.heap.size := Nat.le_of_lt hgw
     have HSK : Hid (∀ W : World, (∀ j, W.cell? ⟨g, j, none⟩ = wr.cell? ⟨g, j, none⟩) → (fun V' : World => (V'.cell? ⟨g, 0, none⟩ = some (.int .i64 tk) ∧ V'.cell? ⟨g, 1, none⟩ = some (.int .i64 tn) ∧ V'.cell? ⟨g, 2, none⟩ = some (.string ts) ∧ V'.cell? ⟨g, 3, none⟩ = some (.slice A tl.length (capF tl.length c)) ∧ V'.cell? ⟨g, 4, none⟩ = some (.slice B nq bc))) W) := Lib.hid fun W hW =>
      ⟨(hW 0).trans (HBX.out.cell 0), (hW 1).trans (HBX.out.cell 1), (hW 2).trans (HBX.out.cell 2), (hW 3).trans (HBX.out.cell 3), (hW 4).trans (HBX.out.cell 4)⟩
     have HSS : Hid (∀ V', Below wr.heap.size wr V' → (fun V' : World => (V'.cell? ⟨g, 0, none⟩ = some (.int .i64 tk) ∧ V'.cell? ⟨g, 1, none⟩ = some (.int .i64 tn) ∧ V'.cell? ⟨g, 2, none⟩ = some (.string ts) ∧ V'.cell? ⟨g, 3, none⟩ = some (.slice A tl.length (capF tl.length c)) ∧ V'.cell? ⟨g, 4, none⟩ = some (.slice B nq bc))) V') := Lib.hid fun V' h => HSK.out V' fun j => h.cell (p := ⟨g, j, none⟩) hgw
     clear hpl hpl2 hdp hlen hnq hbx HIV
     go_upto_region 5 with fail
     have hb_1 : Below wr.heap.size wr wr := Below.refl _ _
     refine wp_region_K (S := (fun V' : World => (V'.cell? ⟨g, 0, none⟩ = some (.int .i64 tk) ∧ V'.cell? ⟨g, 1, none⟩ = some (.int .i64 tn) ∧ V'.cell? ⟨g, 2, none⟩ = some (.string ts) ∧ V'.cell? ⟨g, 3, none⟩ = some (.slice A tl.length (capF tl.length c)) ∧ V'.cell? ⟨g, 4, none⟩ = some (.slice B nq bc)))) 15 rfl (HSS.out _ hb_1.drew) (fun hSs => ?_)
     change wpAnyK _ _ _ _ _ _ 16 (Array.replicate 16 false) _ _
     refine tkB (i := 0) (oi := ⟨some 36, _, _, _, _, _⟩) (v := .pointer (some ⟨g, 0, none⟩)) hSs ?_
     try go_frame
     refine tkB (i := 1) (oi := ⟨some 37, _, _, _, _, _⟩) (v := .pointer (some ⟨g, 0, none⟩)) hSs ?_
     try go_frame
     refine tkA (i := 2) (oi := ⟨some 38, _, _, _, _, _⟩) (v := .pointer (some ⟨g, 0, none⟩)) hSs ?_
     try go_frame
     refine tkA (i := 3) (oi := ⟨some 39, _, _, _, _, _⟩) (v := .pointer (some ⟨g, 4, none⟩)) hSs ?_
     try go_frame
     refine tkA (i := 4) (oi := ⟨some 40, _, _, _, _, _⟩) (v := .slice B nq bc) hSs ?_
     try go_frame
     refine tkB (i := 5) (oi := ⟨some 41, _, _, _, _, _⟩) (v := .pointer (some ⟨g, 0, none⟩)) hSs ?_
     try go_frame
     refine tkA (i := 6) (oi := ⟨some 42, _, _, _, _, _⟩) (v := .pointer (some ⟨g, 0, none⟩)) hSs ?_
     try go_frame
     refine tkA (i := 7) (oi := ⟨some 43, _, _, _, _, _⟩) (v := .pointer (some ⟨g, 0, none⟩)) hSs ?_
     try go_frame
     refine tkA (i := 8) (oi := ⟨some 44, _, _, _, _, _⟩) (v := .agg #[.int .i64 tk, .int .i64 tn, .string ts, .slice A tl.length (capF tl.length c)]) hSs ?_
     try go_frame
     refine tkB (i := 9) (oi := ⟨some 45, _, _, _, _, _⟩) (v := .int .i64 (i : Int)) hSs ?_
     try go_frame
     refine tkA (i := 10) (oi := ⟨some 46, _, _, _, _, _⟩) (v := .agg #[.int .i64 tk, .int .i64 tn, .string ts, .slice A tl.length (capF tl.length c), .int .i64 (i : Int)]) hSs ?_
     try go_frame
     refine wpAnyK_one  (i := 11) rfl rfl (by kernel_rfl) (fun K hK => ?_)
     go_simp
     have hb_2 := Below.alloc hb_1 hb_1.size (.cells #[.int .i64 tk, .int .i64 tn, .string ts, .slice A tl.length (capF tl.length c), .int .i64 (i : Int)] 60)
     have hl_2 : Lies (wr.alloc (.cells #[.int .i64 tk, .int .i64 tn, .string ts, .slice A tl.length (capF tl.length c), .int .i64 (i : Int)] 60)) (wr.heap.size) 60 #[.int .i64 tk, .int .i64 tn, .string ts, .slice A tl.length (capF tl.length c), .int .i64 (i : Int)] := Lies.new _ _ _
     refine hK.out _ _ (fun _ => HSS.out _ (hb_2.drew)) (fun hS9 => ?_)
     have hS_2 := hS9 (by decide)
     clear hK K hS9
     try go_frame
     refine wpAnyK_one  (i := 12) rfl rfl (by kernel_rfl) (fun K hK => ?_)
     refine wp_append_lies _ _ _ _ rfl (g + 1) 60 i0 _ 5 64 Tryz.underlying41 hi0 hz0 hz1 hz2 rfl (by omega) (.slice B nq bc) nq xs rfl (hown9.alloc _)
      ⟨wr.heap.size, 0, none⟩ 1 1 [.int .i64 tk, .int .i64 tn, .string ts, .slice A tl.length (capF tl.length c), .int .i64 (i : Int)] rfl rfl (World.news_of_block (cs := #[.int .i64 tk, .int .i64 tn, .string ts, .slice A tl.length (capF tl.length c), .int .i64 (i : Int)]) (t := 60) (fr := (0, 0)) (heap_alloc_new wr _)) (by simp [Value.oneCell'])
      (by omega) (by simp only [maxLen]; omega) (by omega) (by simp; omega) (wr.heap.size + 1) (by simp) ?_
     intro gg c3 w3 hown3 hg3 hat hltg
     have K3 : ∀ j, w3.cell? ⟨g, j, none⟩ = wr.cell? ⟨g, j, none⟩ := fun j =>
      (World.cell?_of_block (a := ⟨g, j, none⟩) (hg3.block g (by simp; omega) (fun e => by have := (hlto g e.symm).1; omega))).trans (World.cell?_alloc_lt wr _ ⟨g, j, none⟩ hgw)
     replace hg3 : (wr.alloc (.cells #[.int .i64 tk, .int .i64 tn, .string ts, .slice A tl.length (capF tl.length c), .int .i64 (i : Int)] 60)).grownBy w3 (Value.slice B nq bc).ownBlock := ⟨hg3.os, hg3.tape, hg3.output, hg3.size, hg3.block⟩
     refine hK.out _ _ (fun _ => HSK.out _ K3) (fun hS9 => ?_)
     have hS_9 := hS9 (by decide)
     clear hK K hS9 K3
     try go_frame
     refine wpAnyK_one  (i := 13) rfl rfl (by kernel_rfl) (fun K hK => ?_)
     go_simp
     refine hK.out _ _ (fun _ => hS_9) (fun hS9 => ?_)
     clear hK K hS9
     try go_frame
     refine wpAnyK_one  (i := 14) rfl rfl (by kernel_rfl) (fun K hK => ?_)
     go_simp
     refine hK.out _ _ (fun _ => hS_9) (fun hS9 => ?_)
     clear hK K hS9
     try go_frame
     refine wpAnyK_one  (i := 15) rfl rfl (by kernel_rfl) (fun K hK => ?_)
     have hs3 := hg3.size
     simp at hs3
     have j5 : Lies w3 g 43 #[.int .i64 tk, .int .i64 tn, .string ts, .slice A tl.length (capF tl.length c), .slice B nq bc] := (HBX.out.old (.cells #[.int .i64 tk, .int .i64 tn, .string ts, .slice A tl.length (capF tl.length c), .int .i64 (i : Int)] 60)).grown hg3 (fun e => by have := (hlto g e.symm).1; omega)
     have e4 := j5.cell 4
     have f4 := j5.frozen 4
     simp at e4
     go_wp2_with fail
     refine hK.out _ _ (fun h => absurd rfl h) (fun _ => ?_)
     clear hK K
     try go_frame
     refine wpAnyK_done (by kernel_rfl) ?_ _
     have hbw9 : Below g w w3 := (hbr.alloc (by omega) (.cells #[.int .i64 tk, .int .i64 tn, .string ts, .slice A tl.length (capF tl.length c), .int .i64 (i : Int)] 60)).grown hg3 (by simp; omega) (fun q hq => by have := (hlto q hq).1; omega)
     have hfar : ∀ b j, b < wr.heap.size → OffG g r B b → w3.cell? ⟨b, j, none⟩ = wr.cell? ⟨b, j, none⟩ ∧ OffG g r (some ⟨gg, 0, none⟩) b := fun b j hb hX => by
      have hne : some b ≠ (Value.slice B nq bc).ownBlock := fun e => by
       cases B with
       | none => cases e
       | some a => exact hX.2.2 a rfl (by injection e)
      refine ⟨(World.cell?_of_block (a := ⟨b, j, none⟩) (hg3.block b (by simp; omega) hne)).trans (World.cell?_alloc_lt wr _ ⟨b, j, none⟩ hb), hX.1, hX.2.1, fun a ha => ?_⟩
      cases ha
      show b ≠ gg
      intro e
      rcases hat with h | h
      ·exact hne (by rw [h, e])
      ·omega
     have hrow3 : RowP w3 (OffG g r (some ⟨gg, 0, none⟩)) q xs := HRO.out.keep fun b j hX hb => hfar b j hb hX
     have hT3 : EIn w3 (OffG g r (some ⟨gg, 0, none⟩)) (.node tk tn ts tl) A := EIn.keep _ HET.out fun b j hX hb => hfar b j hb hX
     have hown4 : (w3.setCell ⟨g, 4, none⟩ (.slice (some ⟨gg, 0, none⟩) (nq + 1) c3)).ownsRow (g + 1) 60 5 (.slice (some ⟨gg, 0, none⟩) (nq + 1) c3) (nq + 1) (xs ++ [.int .i64 tk, .int .i64 tn, .string ts, .slice A tl.length (capF tl.length c), .int .i64 (i : Int)]) := ownsRow_setCell_below hown3 (by show g < _; omega) _
     have hggs : g + 1 ≤ gg := by
      rcases hat with h | h
      ·exact (hlto _ h).1
      ·omega
     have hgo : ¬ OffG g r (some ⟨gg, 0, none⟩) g := fun h => h.1 rfl
     have hrow4 : RowP (w3.setCell ⟨g, 4, none⟩ (.slice (some ⟨gg, 0, none⟩) (nq + 1) c3)) (OffG g r (some ⟨gg, 0, none⟩)) (q ++ [(.node tk tn ts tl, i)]) (xs ++ [.int .i64 tk, .int .i64 tn, .string ts, .slice A tl.length (capF tl.length c), .int .i64 (i : Int)]) :=
      (hrow3.snoc (e := (.node tk tn ts tl, i)) (c := c) hT3).keep fun b j hX _ => ⟨World.cell?_setCell_other _ ⟨g, 4, none⟩ ⟨b, j, none⟩ _ (fun e => by injection e with e; exact hX.1 e.symm), hX⟩
     have hT4 := EIn.setCell _ hT3 ⟨g, 4, none⟩ (.slice (some ⟨gg, 0, none⟩) (nq + 1) c3) hgo
     have j6 : Lies (w3.setCell ⟨g, 4, none⟩ (.slice (some ⟨gg, 0, none⟩) (nq + 1) c3)) g 43 #[.int .i64 tk, .int .i64 tn, .string ts, .slice A tl.length (capF tl.length c), .slice (some ⟨gg, 0, none⟩) (nq + 1) c3] := by simpa using j5.put 4 (.slice (some ⟨gg, 0, none⟩) (nq + 1) c3)
     have hbw4 : Below g w (w3.setCell ⟨g, 4, none⟩ (.slice (some ⟨gg, 0, none⟩) (nq + 1) c3)) := hbw9.setCell (p := ⟨g, 4, none⟩) (Nat.le_refl _) _
     have hsz6 : g < (w3.setCell ⟨g, 4, none⟩ (.slice (some ⟨gg, 0, none⟩) (nq + 1) c3)).heap.size := j6.lt
     generalize w3.setCell ⟨g, 4, none⟩ (.slice (some ⟨gg, 0, none⟩) (nq + 1) c3) = V6 at *
     have HET6 := hT4
     rw [EIn] at HET6
     obtain ⟨gp, op, Ap, cp, ⟨hAp, hXp⟩, dp0, dp1, dp2, dp3, hInp⟩ := ELIn.at_ tl HET6.2.2 i hil
     have hpe : prt tl i = tl[i]'hil := by rw [prt, List.getD_eq_getElem?_getD, List.getElem?_eq_getElem hil]; rfl
     obtain ⟨P, hP⟩ : ∃ P, P = tl[i]'hil := ⟨_, rfl⟩
     rw [← hP] at dp0 dp1 dp2 dp3 hInp hpe
     simp only [Nat.zero_add] at dp0 dp1 dp2 dp3
     subst hAp
     have HPZ2 : Hid (PzE f T P (q ++ [(.node tk tn ts tl, i)]) ∧ valK P.kind = false) := Lib.hid (by rw [← hpe]; exact pz_in HPZ.out HWT.out)
     clear hP hpe
     obtain ⟨pk, pn, ps, pl⟩ := P
     simp only [Te.kind, Te.n, Te.name, Te.parts] at dp0 dp1 dp2 dp3
     have m0 := j6.cell 0
     have m1 := j6.cell 1
     have m2 := j6.cell 2
     have m3 := j6.cell 3
     simp at m0 m1 m2 m3
     have n0 := j6.frozen 0
     have n1 := j6.frozen 1
     have n2 := j6.frozen 2
     have n3 := j6.frozen 3
     have Z7 : Hid (∀ V7, V7 = (((V6.setCell ⟨g, 0, none⟩ (.int .i64 pk)).setCell ⟨g, 1, none⟩ (.int .i64 pn)).setCell ⟨g, 2, none⟩ (.string ps)).setCell ⟨g, 3, none⟩ (.slice Ap pl.length (capF pl.length cp)) → Zp V7 g r (.node pk pn ps pl) (q ++ [(.node tk tn ts tl, i)]) Ap cp (some ⟨gg, 0, none⟩) c3 (xs ++ [.int .i64 tk, .int .i64 tn, .string ts, .slice (some ⟨gp, op, none⟩) tl.length (capF tl.length c), .int .i64 (i : Int)]) ∧ Below g w V7 ∧ w.heap.size ≤ V7.heap.size) := Lib.hid fun V7 hV => by
      subst hV
      have hl9 : (q ++ [(Te.node tk tn ts tl, i)]).length = nq + 1 := by rw [List.length_append, ← HNQ.out]; rfl
      refine ⟨⟨?_, ?_, ?_, ?_⟩, (((hbw4.setCell (p := ⟨g, 0, none⟩) (Nat.le_refl _) _).setCell (p := ⟨g, 1, none⟩) (Nat.le_refl _) _).setCell (p := ⟨g, 2, none⟩) (Nat.le_refl _) _).setCell (p := ⟨g, 3, none⟩) (Nat.le_refl _) _, by simp [World.setCell]; have := hbw4.size; exact this⟩
      ·rw [hl9]
       have := (((j6.put 0 (.int .i64 pk)).put 1 (.int .i64 pn)).put 2 (.string ps)).put 3 (.slice Ap pl.length (capF pl.length cp))
       simpa [Te.kind, Te.n, Te.name, Te.parts] using this
      ·rw [hl9]
       refine ownsRow_setCell_below (ownsRow_setCell_below (ownsRow_setCell_below (ownsRow_setCell_below ?_ (by show g < _; omega) _) (by show g < _; omega) _) (by show g < _; omega) _) (by show g < _; omega) _
       exact hown4
      ·exact hrow4.keep fun b j hX _ => by
        have hne : ∀ r, (⟨g, r, none⟩ : Addr) ≠ ⟨b, j, none⟩ := fun r e => by injection e with e; exact hX.1 e.symm
        exact ⟨by rw [World.cell?_setCell_other _ _ _ _ (hne _), World.cell?_setCell_other _ _ _ _ (hne _), World.cell?_setCell_other _ _ _ _ (hne _), World.cell?_setCell_other _ _ _ _ (hne _)], hX⟩
      ·exact EIn.setCell _ (EIn.setCell _ (EIn.setCell _ (EIn.setCell _ hInp ⟨g, 0, none⟩ _ hgo) ⟨g, 1, none⟩ _ hgo) ⟨g, 2, none⟩ _ hgo) ⟨g, 3, none⟩ _ hgo
     have HPL := may_len (HPZ2.out.1.may)
     clear hfar hrow3 hT3 hown3 hown4 hrow4 hT4 j5 j6 hbw9 hbw4 hInp HET6 hg3 hat hi0 hz0 hz1 hz2 e4 f4 hSs
     go_upto_region 4 with fail
     obtain ⟨HZ7, hb7, hs7⟩ := Z7.out _ rfl
     generalize (((V6.setCell ⟨g, 0, none⟩ (.int .i64 pk)).setCell ⟨g, 1, none⟩ (.int .i64 pn)).setCell ⟨g, 2, none⟩ (.string ps)).setCell ⟨g, 3, none⟩ (.slice Ap pl.length (capF pl.length cp)) = V7 at *
     have HW := Lib.hid (waits_any pk pn ps pl Ap pl.length (capF pl.length cp) V7 rfl (by have := HZ7.ein; rw [EIn] at this; exact ELIn.keep _ this.2.2 fun _ _ _ _ => ⟨rfl, trivial⟩) (by omega))
     have y0 := HZ7.box.cell 0
     have y1 := HZ7.box.cell 1
     have y2 := HZ7.box.cell 2
     have y3 := HZ7.box.cell 3
     simp at y0 y1 y2 y3
     clear Z7 dp0 dp1 dp2 dp3 m0 m1 m2 m3 n0 n1 n2 n3 HPL
     have HZ := Lib.hid HZ7
     have HB7 := Lib.hid hb7
     clear HZ7 hb7
     go_wp2_with fail
     refine HW.out.mono ?_
     rintro e w9 ⟨hwp, hb9⟩
     have HZ9 := Lib.hid (HZ.out.below hb9)
     have HB9 := Lib.hid (HB7.out.trans (hb9.mono (by have := HZ.out.box.lt; omega)))
     have hs9 : w.heap.size ≤ w9.heap.size := Nat.le_trans hs7 hb9.size
     clear hb9 y0 y1 y2 y3
     obtain ⟨iv, bv, rfl, hiv⟩ := waitp_split hwp
     have HIV := Lib.hid hiv
     clear hwp hiv
     go_wp2_with fail
     go_roundw
     case rel => exact ⟨.node pk pn ps pl, q ++ [(.node tk tn ts tl, i)], Ap, cp, some ⟨gg, 0, none⟩, c3, _, iv, bv, rfl, rfl, HIV, HZ9, Lib.hid ⟨HPZ2.out.1, fun h => by rw [HPZ2.out.2] at h; cases h⟩, HB9, hs9⟩
     case measure => exact HMS.out _ (by rw [HZ9.out.len, List.length_append]; rfl)
    | false =>
     go_wp2_with fail
     go_end0
     exact ⟨rfl, ⟨t, q, ⟨A, c, B, bc, xs, HZ.out⟩, HPZ0.out.1, HIV.out.2 trivial, HPZ0.out.2⟩, HBW.out, hsw⟩
theorem Zp.far {w : World} {g r : Nat} {t : Te} {q : List (Te × Nat)} {A : Option Addr} {c : Nat} {B : Option Addr} {bc : Nat} {xs : List Value} (h : Zp w g r t q A c B bc xs) {r' : Nat} (hr : w.heap.size ≤ r') : Zp w g r' t q A c B bc xs := by
 refine ⟨h.box, h.own, h.row.keep fun b j hX hlt => ⟨rfl, hX.1, by omega, hX.2.2⟩, EIn.keep _ h.ein fun b j hX hlt => ⟨rfl, hX.1, by omega, hX.2.2⟩⟩
structure PwE (f : Int) (T t : Te) (q : List (Te × Nat)) : Prop where
 plug : plugE t q.reverse = T
 path : pathE q
 all : ∀ e ∈ q, mayQ e.1 f false = true
theorem PzE.pw {f : Int} {T t : Te} {q : List (Te × Nat)} (h : PzE f T t q) (u : Te) : PwE f (plugE u q.reverse) u q := ⟨rfl, h.path, h.all⟩
theorem pw_out {f : Int} {T t u : Te} {q : List (Te × Nat)} {i : Nat} (h : PwE f T t (q ++ [(u, i)])) : PwE f T (setE u i t) q ∧ valK (setE u i t).kind = false ∧ i < u.parts.length ∧ mayQ u f false = true := by
 have h1 := h.path (u, i) (by simp)
 have h2 := h.all (u, i) (by simp)
 refine ⟨⟨?_, fun e he => h.path e (by simp [he]), fun e he => h.all e (by simp [he])⟩, ?_, h1.2, h2⟩
 ·have := h.plug
  rw [List.reverse_append] at this
  exact this
 ·rw [setE_kind]; exact (wait_kind h1.1).1
theorem pw_len {f : Int} {T t : Te} {q : List (Te × Nat)} (h : PwE f T t q) : depthE t + q.length ≤ depthE T := by
 have := depth_plug q.reverse t (fun e he => h.path e (by simpa using he))
 rw [h.plug, List.length_reverse] at this
 exact this
set_option maxHeartbeats 8000000 in
theorem whole_any (f : Int) (g r : Nat) (T t : Te) (q : List (Te × Nat)) (A : Option Addr) (c : Nat) (B : Option Addr) (bc : Nat) (xs : List Value) (w : World) (hz : Zp w g r t q A c B bc xs) (hp : PwE f T t q) (hD : depthE T ≤ 12000) :
  Calls Tryz.prog 25 #[.pointer (some ⟨g, 0, none⟩)] w fun e w' => ∃ A' c', e = .returned (ev T A' c') ∧ EIn w' Any T A' ∧ Below g w w' := by
 have hgw : g < w.heap.size := hz.box.lt
 have hb0 : Below w.heap.size w (w.alloc (.cells #[.int .i64 0, .int .i64 0, .string ⟨#[]⟩, .slice none 0 0] 24)) := (Below.refl _ w).alloc (Nat.le_refl _) _
 have HZ0 := Lib.hid ((hz.far (r' := w.heap.size) (Nat.le_refl _)).below hb0)
 have HP0 := Lib.hid hp
 have hL0 := Lies.new w 24 #[.int .i64 0, .int .i64 0, .string ⟨#[]⟩, .slice none 0 0]
 have hbg0 : Below g w (w.alloc (.cells #[.int .i64 0, .int .i64 0, .string ⟨#[]⟩, .slice none 0 0] 24)) := hb0.mono (by omega)
 clear hz hp hb0
 go_enter Tryz.func25, Tryz.ntmps25
 go_wp2_with fail
 go_loopw [] (fun wr => ∃ (t : Te) (q : List (Te × Nat)) (A : Option Addr) (c : Nat) (B : Option Addr) (bc : Nat) (xs : List Value), Hid (Zp wr g w.heap.size t q A c B bc xs) ∧ Hid (PwE f T t q) ∧ Lies wr w.heap.size 24 #[.int .i64 0, .int .i64 0, .string ⟨#[]⟩, .slice none 0 0] ∧ Below g w wr) (fun wr => aroLen g wr)
 case atStart => exact ⟨t, q, A, c, B, bc, xs, HZ0, HP0, hL0, hbg0⟩
 case round =>
  clear HZ0 HP0 hL0 hbg0 t q A c B bc xs
  obtain ⟨t, q, A, c, B, bc, xs, HZ, HP, hL, hbg⟩ := hrel
  have hbs := hbg.size
  have hlen := HZ.out.len
  have hbx := HZ.out.box
  rcases List.eq_nil_or_concat q with hq | ⟨q0, e, hq⟩
  ·subst hq
   obtain ⟨tk, tn, ts, tl⟩ := t
   simp only [Te.kind, Te.n, Te.name, Te.parts, List.length_nil] at hbx
   have hTe : Te.node tk tn ts tl = T := HP.out.plug
   have HT := Lib.hid hTe
   have y0 := hbx.cell 0
   have y1 := hbx.cell 1
   have y2 := hbx.cell 2
   have y3 := hbx.cell 3
   have y4 := hbx.cell 4
   simp at y0 y1 y2 y3 y4
   obtain ⟨⟨z0, z1, z2, z3⟩, f0, f1, f2, f3⟩ := hL.four
   have HE := Lib.hid HZ.out.ein
   clear hTe hbx hlen
   go_wp2_with fail
   refine bodyPost_ret (res_term (p := 2) Tryz.results25 rfl (hL.all _ _ _ _)) rfl ?_
   rw [← HT.out]
   refine ⟨A, c, rfl, ?_, Below.all hbg (by omega) _ _ _ _⟩
   refine EIn.keep _ HE.out fun b j hX _ => ⟨?_, trivial⟩
   have hne : ∀ q, (⟨w.heap.size, q, none⟩ : Addr) ≠ ⟨b, j, none⟩ := fun q e => by injection e with e; exact hX.2.1 e.symm
   rw [World.cell?_setCell_other _ _ _ _ (hne _), World.cell?_setCell_other _ _ _ _ (hne _), World.cell?_setCell_other _ _ _ _ (hne _), World.cell?_setCell_other _ _ _ _ (hne _)]
  ·obtain ⟨u, i⟩ := e
   have hqe : q = q0 ++ [(u, i)] := by simpa using hq
   clear hq
   subst hqe
   have ho := pw_out HP.out
   have hl := (may_len (f := f) (a := false) (k := u.kind) (n := u.n) (s := u.name) (l := u.parts) (by cases u; exact ho.2.2.2)).2.2.2.2.2
   have hq9 := pw_len ho.1
   have HG := Lib.hid (goOut_any g w.heap.size t u i q0 A c B bc xs wr HZ.out ho.2.2.1 (by omega) (by omega) hL.lt)
   have HO := Lib.hid ho.1
   obtain ⟨nq, hnq⟩ : ∃ nq, nq = q0.length := ⟨_, rfl⟩
   have hl9 : (q0 ++ [(u, i)]).length = nq + 1 := by simp [hnq]
   rw [hl9] at hbx hlen
   have HNQ := Lib.hid hnq
   have HLEN := Lib.hid hlen
   have y4 := hbx.cell 4
   simp at y4
   have hn1 : (0 : Int) < (nq : Int) + 1 := by omega
   clear ho hl hq9 hnq hl9 hbx hlen HZ HP
   go_wp2_with fail
   refine HG.out.mono ?_
   rintro e w2 ⟨rfl, ⟨A2, c2, bc2, xs2, hz2⟩, hb2, hs2, hh2⟩
   have hL2 : Lies w2 w.heap.size 24 #[.int .i64 0, .int .i64 0, .string ⟨#[]⟩, .slice none 0 0] := (hh2 _ hL.lt (by omega)).trans hL
   have hb3 := hbg.trans hb2
   have HZ2 := Lib.hid hz2
   have hms : aroLen g w2 < aroLen g wr := by rw [hz2.len, HLEN.out, HNQ.out]; omega
   have HMS := Lib.hid hms
   clear hz2 hb2 hh2 hms hL hbg y4
   go_wp2_with fail
   go_roundw
   case rel => exact ⟨_, q0, A2, c2, B, bc2, xs2, HZ2, HO, hL2, hb3⟩
   case measure => exact HMS.out
theorem cell_offs (w : World) (g b : Nat) (hb : b ≠ g) (vs : List Value) (o j : Nat) : (w.setCells g o vs).cell? ⟨b, j, none⟩ = w.cell? ⟨b, j, none⟩ :=
 World.cell?_of_block (a := ⟨b, j, none⟩) (heap_cells w g b hb vs o)
theorem gives_allS {u : Te} {x : Int} {A2 : Option Addr} {c2 : Nat} {w W w2 : World} {g : Nat} (hT : EIn w2 (fun b => W.heap.size ≤ b) u A2) (h0 : w.heap.size ≤ g) (h1 : g < W.heap.size) (hb : Below w.heap.size w w2) (a b c d : Value) :
  GivesS u x w (.returned (.tuple #[ev u A2 c2, .int .i64 x])) ((((w2.setCell ⟨g, 0, none⟩ a).setCell ⟨g, 1, none⟩ b).setCell ⟨g, 2, none⟩ c).setCell ⟨g, 3, none⟩ d) := by
 obtain ⟨A, c', he, h2, h3⟩ := gives_all (c2 := c2) hT h0 h1 hb a b c d
 exact ⟨A2, c2, rfl, by
  refine EIn.keep _ hT fun g' j hX _ => ?_
  have hX' : W.heap.size ≤ g' := hX
  have hne : ∀ q, (⟨g, q, none⟩ : Addr) ≠ ⟨g', j, none⟩ := fun q e => by injection e with e; omega
  refine ⟨?_, by have := hb.size; omega⟩
  rw [World.cell?_setCell_other _ _ _ _ (hne _), World.cell?_setCell_other _ _ _ _ (hne _), World.cell?_setCell_other _ _ _ _ (hne _), World.cell?_setCell_other _ _ _ _ (hne _)], h3⟩
def FineT (t : Te) : Prop := depthE t ≤ 12000 ∧ sizeE t ≤ 1000000000000 ∧ tameE 1099511627776 1099511627776 t
set_option maxHeartbeats 8000000 in
theorem apply_any (F a : Te) (Af Aa : Option Addr) (cf ca : Nat) (w : World) (hF : EIn w Any F Af) (ha : EIn w Any a Aa) (hfF : FineT F) (hfa : FineT a) (h1 : F.kind = 2 → 1 ≤ F.parts.length) (hfp : F.kind = 2 → FineT (prt F.parts 0)) :
  Calls Tryz.prog 38 #[ev F Af cf, ev a Aa ca] w (GivesS (applyE F a).1 (applyE F a).2 w) := by
 obtain ⟨fk, fn, fs, fl⟩ := F
 obtain ⟨ak, an, as_, al⟩ := a
 have hb0 : Below w.heap.size w (((w.alloc (.cells #[.int .i64 fk, .int .i64 fn, .string fs, .slice Af fl.length (capF fl.length cf)] 24)).alloc (.cells #[.int .i64 ak, .int .i64 an, .string as_, .slice Aa al.length (capF al.length ca)] 24)).alloc (.cells #[.int .i64 0, .int .i64 0, .string ⟨#[]⟩, .slice none 0 0] 24)) := (((Below.refl _ w).alloc (Nat.le_refl _) _).alloc (by simp) _).alloc (by simp; omega) _
 have lf : Lies (((w.alloc (.cells #[.int .i64 fk, .int .i64 fn, .string fs, .slice Af fl.length (capF fl.length cf)] 24)).alloc (.cells #[.int .i64 ak, .int .i64 an, .string as_, .slice Aa al.length (capF al.length ca)] 24)).alloc (.cells #[.int .i64 0, .int .i64 0, .string ⟨#[]⟩, .slice none 0 0] 24)) w.heap.size 24 #[.int .i64 fk, .int .i64 fn, .string fs, .slice Af fl.length (capF fl.length cf)] := ((Lies.new w _ _).old _).old _
 have la : Lies (((w.alloc (.cells #[.int .i64 fk, .int .i64 fn, .string fs, .slice Af fl.length (capF fl.length cf)] 24)).alloc (.cells #[.int .i64 ak, .int .i64 an, .string as_, .slice Aa al.length (capF al.length ca)] 24)).alloc (.cells #[.int .i64 0, .int .i64 0, .string ⟨#[]⟩, .slice none 0 0] 24)) (w.heap.size + 1) 24 #[.int .i64 ak, .int .i64 an, .string as_, .slice Aa al.length (capF al.length ca)] := by
  refine Lies.old ?_ _; simpa using Lies.new (w.alloc (.cells #[.int .i64 fk, .int .i64 fn, .string fs, .slice Af fl.length (capF fl.length cf)] 24)) 24 #[.int .i64 ak, .int .i64 an, .string as_, .slice Aa al.length (capF al.length ca)]
 have lz : Lies (((w.alloc (.cells #[.int .i64 fk, .int .i64 fn, .string fs, .slice Af fl.length (capF fl.length cf)] 24)).alloc (.cells #[.int .i64 ak, .int .i64 an, .string as_, .slice Aa al.length (capF al.length ca)] 24)).alloc (.cells #[.int .i64 0, .int .i64 0, .string ⟨#[]⟩, .slice none 0 0] 24)) (w.heap.size + 1 + 1) 24 #[.int .i64 0, .int .i64 0, .string ⟨#[]⟩, .slice none 0 0] := by simpa using Lies.new ((w.alloc (.cells #[.int .i64 fk, .int .i64 fn, .string fs, .slice Af fl.length (capF fl.length cf)] 24)).alloc (.cells #[.int .i64 ak, .int .i64 an, .string as_, .slice Aa al.length (capF al.length ca)] 24)) 24 #[.int .i64 0, .int .i64 0, .string ⟨#[]⟩, .slice none 0 0]
 have hb0lt : w.heap.size + 3 ≤ (((w.alloc (.cells #[.int .i64 fk, .int .i64 fn, .string fs, .slice Af fl.length (capF fl.length cf)] 24)).alloc (.cells #[.int .i64 ak, .int .i64 an, .string as_, .slice Aa al.length (capF al.length ca)] 24)).alloc (.cells #[.int .i64 0, .int .i64 0, .string ⟨#[]⟩, .slice none 0 0] 24)).heap.size := by simp
 show Calls Tryz.prog 38 #[.agg #[.int .i64 fk, .int .i64 fn, .string fs, .slice Af fl.length (capF fl.length cf)], .agg #[.int .i64 ak, .int .i64 an, .string as_, .slice Aa al.length (capF al.length ca)]] w _
 by_cases hk : fk = 2
 ·subst hk
  have hl := h1 rfl
  have hp := hfp rfl
  simp only [Te.parts] at hl hp
  obtain ⟨gp, op, Ap, cp, ⟨hAp, _⟩, d0, d1, d2, d3, hInp⟩ := EIn.part hF 0 hl
  simp only [Te.parts] at d0 d1 d2 d3 hInp
  have hpe : prt fl 0 = fl[0]'hl := by rw [prt, List.getD_eq_getElem?_getD, List.getElem?_eq_getElem hl]; rfl
  obtain ⟨P, hP⟩ : ∃ P, P = fl[0]'hl := ⟨_, rfl⟩
  rw [← hP] at d0 d1 d2 d3 hInp hpe
  rw [hpe] at hp
  have HE0 : applyE (.node 2 fn fs fl) (.node ak an as_ al) = (putE P 0 (.node ak an as_ al), 1) := by rw [applyE]; simp only [Te.kind, if_true, Te.parts, hpe]
  simp only [Nat.zero_mul, Nat.add_zero] at d0 d1 d2 d3
  subst hAp
  have hgp := cell_lt d0
  obtain ⟨mf, hmf⟩ : ∃ m, m = fl.length := ⟨_, rfl⟩
  rw [← hmf] at lf hb0 la lz hb0lt hl ⊢
  generalize capF mf cf = cF at *
  clear hP hpe hmf
  obtain ⟨pk, pn, ps, pl⟩ := P
  simp only [Te.kind, Te.n, Te.name] at d0 d1 d2 d3
  go_enter Tryz.func38, Tryz.ntmps38
  go_upto_region 3 with fail
  generalize (((w.alloc (.cells #[.int .i64 2, .int .i64 fn, .string fs, .slice (some ⟨gp, op, none⟩) mf cF] 24)).alloc (.cells #[.int .i64 ak, .int .i64 an, .string as_, .slice Aa al.length (capF al.length ca)] 24)).alloc (.cells #[.int .i64 0, .int .i64 0, .string ⟨#[]⟩, .slice none 0 0] 24)) = W0 at *
  have HPU : Hid (∀ X, Below W0.heap.size W0 X → Calls Tryz.prog 63 #[.agg #[.int .i64 pk, .int .i64 pn, .string ps, .slice Ap pl.length (capF pl.length cp)], .int .i64 0, .agg #[.int .i64 ak, .int .i64 an, .string as_, .slice Aa al.length (capF al.length ca)]] X fun e w' => ∃ A2 c2, e = .returned (ev (putE (.node pk pn ps pl) 0 (.node ak an as_ al)) A2 c2) ∧ EIn w' (fun g => X.heap.size ≤ g) (putE (.node pk pn ps pl) 0 (.node ak an as_ al)) A2 ∧ Below X.heap.size X w') := Lib.hid fun X hX =>
   put_any (.node pk pn ps pl) (.node ak an as_ al) Ap Aa cp ca 0 X (EIn.below _ hInp (hb0.trans (hX.mono hb0.size)) (Nat.le_refl _)) hp.1 hp.2.1 hp.2.2 (EIn.below _ ha (hb0.trans (hX.mono hb0.size)) (Nat.le_refl _)) hfa.1 hfa.2.1 hfa.2.2 (by decide) (by decide)
  obtain ⟨U, hU⟩ : ∃ U, U = putE (.node pk pn ps pl) 0 (.node ak an as_ al) := ⟨_, rfl⟩
  rw [← hU] at HPU HE0
  clear hU
  have HE := Lib.hid HE0
  obtain ⟨uk, un, us, ul⟩ := U
  simp only [ev, Te.kind, Te.n, Te.name, Te.parts] at HPU
  have HSS : Hid (∀ V', Below W0.heap.size W0 V' → (fun V' : World => (V'.cell? ⟨w.heap.size, 0, none⟩ = some (.int .i64 2) ∧ V'.cell? ⟨w.heap.size, 1, none⟩ = some (.int .i64 fn) ∧ V'.cell? ⟨w.heap.size, 2, none⟩ = some (.string fs) ∧ V'.cell? ⟨w.heap.size, 3, none⟩ = some (.slice (some ⟨gp, op, none⟩) mf cF) ∧ V'.cell? ⟨w.heap.size + 1, 0, none⟩ = some (.int .i64 ak) ∧ V'.cell? ⟨w.heap.size + 1, 1, none⟩ = some (.int .i64 an) ∧ V'.cell? ⟨w.heap.size + 1, 2, none⟩ = some (.string as_) ∧ V'.cell? ⟨w.heap.size + 1, 3, none⟩ = some (.slice Aa al.length (capF al.length ca)) ∧ V'.cell? ⟨gp, op, none⟩ = some (.int .i64 pk) ∧ V'.cell? ⟨gp, op + 1, none⟩ = some (.int .i64 pn) ∧ V'.cell? ⟨gp, op + 2, none⟩ = some (.string ps) ∧ V'.cell? ⟨gp, op + 3, none⟩ = some (.slice Ap pl.length (capF pl.length cp)))) V') := Lib.hid fun V' h =>
   ⟨(h.cell (p := ⟨w.heap.size, 0, none⟩) lf.lt).trans (lf.cell 0), (h.cell (p := ⟨w.heap.size, 1, none⟩) lf.lt).trans (lf.cell 1), (h.cell (p := ⟨w.heap.size, 2, none⟩) lf.lt).trans (lf.cell 2), (h.cell (p := ⟨w.heap.size, 3, none⟩) lf.lt).trans (lf.cell 3), (h.cell (p := ⟨w.heap.size + 1, 0, none⟩) la.lt).trans (la.cell 0), (h.cell (p := ⟨w.heap.size + 1, 1, none⟩) la.lt).trans (la.cell 1), (h.cell (p := ⟨w.heap.size + 1, 2, none⟩) la.lt).trans (la.cell 2), (h.cell (p := ⟨w.heap.size + 1, 3, none⟩) la.lt).trans (la.cell 3), ((hb0.trans (h.mono hb0.size)).cell (p := ⟨gp, _, none⟩) hgp).trans d0, ((hb0.trans (h.mono hb0.size)).cell (p := ⟨gp, _, none⟩) hgp).trans d1, ((hb0.trans (h.mono hb0.size)).cell (p := ⟨gp, _, none⟩) hgp).trans d2, ((hb0.trans (h.mono hb0.size)).cell (p := ⟨gp, _, none⟩) hgp).trans d3⟩
  clear HE0 hF ha hfF hfa h1 hfp hInp d0 d1 d2 d3 lf la hp
  have hb_1 : Below W0.heap.size W0 W0 := Below.refl _ _
  refine wp_region_K (S := (fun V' : World => (V'.cell? ⟨w.heap.size, 0, none⟩ = some (.int .i64 2) ∧ V'.cell? ⟨w.heap.size, 1, none⟩ = some (.int .i64 fn) ∧ V'.cell? ⟨w.heap.size, 2, none⟩ = some (.string fs) ∧ V'.cell? ⟨w.heap.size, 3, none⟩ = some (.slice (some ⟨gp, op, none⟩) mf cF) ∧ V'.cell? ⟨w.heap.size + 1, 0, none⟩ = some (.int .i64 ak) ∧ V'.cell? ⟨w.heap.size + 1, 1, none⟩ = some (.int .i64 an) ∧ V'.cell? ⟨w.heap.size + 1, 2, none⟩ = some (.string as_) ∧ V'.cell? ⟨w.heap.size + 1, 3, none⟩ = some (.slice Aa al.length (capF al.length ca)) ∧ V'.cell? ⟨gp, op, none⟩ = some (.int .i64 pk) ∧ V'.cell? ⟨gp, op + 1, none⟩ = some (.int .i64 pn) ∧ V'.cell? ⟨gp, op + 2, none⟩ = some (.string ps) ∧ V'.cell? ⟨gp, op + 3, none⟩ = some (.slice Ap pl.length (capF pl.length cp))))) 7 rfl (HSS.out _ hb_1.drew) (fun hSs => ?_)
  change wpAnyK _ _ _ _ _ _ 8 (Array.replicate 8 false) _ _
  refine tkA (i := 0) (oi := ⟨some 12, _, _, _, _, _⟩) (v := .pointer (some ⟨w.heap.size, 3, none⟩)) hSs ?_
  try go_frame
  refine tkA (i := 1) (oi := ⟨some 13, _, _, _, _, _⟩) (v := .slice (some ⟨gp, op, none⟩) mf cF) hSs ?_
  try go_frame
  refine tkA (i := 2) (oi := ⟨some 14, _, _, _, _, _⟩) (v := .pointer (some ⟨gp, op, none⟩)) hSs ?_
  try go_frame
  refine tkA (i := 3) (oi := ⟨some 15, _, _, _, _, _⟩) (v := .agg #[.int .i64 pk, .int .i64 pn, .string ps, .slice Ap pl.length (capF pl.length cp)]) hSs ?_
  try go_frame
  refine tkA (i := 4) (oi := ⟨some 16, _, _, _, _, _⟩) (v := .agg #[.int .i64 ak, .int .i64 an, .string as_, .slice Aa al.length (capF al.length ca)]) hSs ?_
  try go_frame
  refine wpAnyK_one  (i := 5) rfl rfl (by kernel_rfl) (fun K hK => ?_)
  go_simp
  refine (HPU.out _ (hb_1.drew) ).mono ?_
  rintro e u_2 ⟨A_2, c_2, rfl, hT_2, hq_2⟩
  have hb_2 := (hb_1.drew).trans (hq_2.mono (hb_1.drew).size)
  have lz_2 := (lz.drew).below hq_2 lz.lt
  refine hK.out _ _ (fun _ => HSS.out _ hb_2) (fun hS9 => ?_)
  have hS_2 := hS9 (by decide)
  clear hK K hS9
  try go_frame
  refine wpAnyK_one  (i := 6) rfl rfl (by kernel_rfl) (fun K hK => ?_)
  obtain ⟨z0, z1, z2, z3, z4, z5, z6, z7, z8, z9, z10, z11⟩ := hS_2
  refine wp_store_as (F := fun W9 => (Below w.heap.size w W9 ∧ Lies W9 (w.heap.size + 1 + 1) 24 #[.int .i64 uk, .int .i64 un, .string us, .slice A_2 ul.length (capF ul.length c_2)] ∧ EIn W9 (fun b => w.heap.size ≤ b) (.node uk un us ul) A_2) ∧ (fun V' : World => (V'.cell? ⟨w.heap.size, 0, none⟩ = some (.int .i64 2) ∧ V'.cell? ⟨w.heap.size, 1, none⟩ = some (.int .i64 fn) ∧ V'.cell? ⟨w.heap.size, 2, none⟩ = some (.string fs) ∧ V'.cell? ⟨w.heap.size, 3, none⟩ = some (.slice (some ⟨gp, op, none⟩) mf cF) ∧ V'.cell? ⟨w.heap.size + 1, 0, none⟩ = some (.int .i64 ak) ∧ V'.cell? ⟨w.heap.size + 1, 1, none⟩ = some (.int .i64 an) ∧ V'.cell? ⟨w.heap.size + 1, 2, none⟩ = some (.string as_) ∧ V'.cell? ⟨w.heap.size + 1, 3, none⟩ = some (.slice Aa al.length (capF al.length ca)) ∧ V'.cell? ⟨gp, op, none⟩ = some (.int .i64 pk) ∧ V'.cell? ⟨gp, op + 1, none⟩ = some (.int .i64 pn) ∧ V'.cell? ⟨gp, op + 2, none⟩ = some (.string ps) ∧ V'.cell? ⟨gp, op + 3, none⟩ = some (.slice Ap pl.length (capF pl.length cp)))) W9) _ _ _ rfl (w.heap.size + 1 + 1) 0 #[.int .i64 uk, .int .i64 un, .string us, .slice A_2 ul.length (capF ul.length c_2)] rfl rfl (lies_is lz_2 rfl) (by kernel_rfl) (by simp [Value.oneCell'])
   ⟨⟨below_cells (hb0.trans (hb_2.mono hb0.size)) (by omega) _ _, lies_set4 lz_2 _ _ _ _, EIn.wide _ (ein_offs _ hT_2 (fun h => by have h9 : W0.heap.size ≤ w.heap.size + 1 + 1 := h; have := hb0lt; omega) _ _) (fun b hb _ => by have h9 : W0.heap.size ≤ b := hb; have := hb0.size; omega)⟩, ⟨(cell_offs _ (w.heap.size + 1 + 1) _ (by omega) _ _ _).trans z0, (cell_offs _ (w.heap.size + 1 + 1) _ (by omega) _ _ _).trans z1, (cell_offs _ (w.heap.size + 1 + 1) _ (by omega) _ _ _).trans z2, (cell_offs _ (w.heap.size + 1 + 1) _ (by omega) _ _ _).trans z3, (cell_offs _ (w.heap.size + 1 + 1) _ (by omega) _ _ _).trans z4, (cell_offs _ (w.heap.size + 1 + 1) _ (by omega) _ _ _).trans z5, (cell_offs _ (w.heap.size + 1 + 1) _ (by omega) _ _ _).trans z6, (cell_offs _ (w.heap.size + 1 + 1) _ (by omega) _ _ _).trans z7, (cell_offs _ (w.heap.size + 1 + 1) _ (by omega) _ _ _).trans z8, (cell_offs _ (w.heap.size + 1 + 1) _ (by omega) _ _ _).trans z9, (cell_offs _ (w.heap.size + 1 + 1) _ (by omega) _ _ _).trans z10, (cell_offs _ (w.heap.size + 1 + 1) _ (by omega) _ _ _).trans z11⟩⟩ (fun W_3 hF_3 => ?_)
  refine hK.out _ _ (fun _ => hF_3.2) (fun hS9 => ?_)
  have hS_3 := hS9 (by decide)
  clear hK K hS9
  try go_frame
  refine wpAnyK_one  (i := 7) rfl rfl (by kernel_rfl) (fun K hK => ?_)
  go_simp
  refine hK.out _ _ (fun h => absurd rfl h) (fun _ => ?_)
  clear hK K
  try go_frame
  refine wpAnyK_done (by kernel_rfl) ?_ _
  obtain ⟨⟨f1, f2, f3⟩, _⟩ := hF_3
  go_wp2_with fail
  refine bodyPost_ret (res_term2 (p := 4) (q := 5) Tryz.results38 rfl f2) rfl ?_
  rw [HE.out]
  exact ⟨A_2, c_2, rfl, f3, f1⟩
 ·have hk2 : (fk == 2) = false := by simpa using hk
  have HE : Hid (applyE (.node fk fn fs fl) (.node ak an as_ al) = (failE, 4)) := Lib.hid (by rw [applyE]; exact if_neg hk)
  have y0 := lf.cell 0
  simp at y0
  clear hk h1 hfp hF ha hfF hfa la
  go_enter Tryz.func38, Tryz.ntmps38
  go_upto_region 1 with fail
  generalize (((w.alloc (.cells #[.int .i64 fk, .int .i64 fn, .string fs, .slice Af fl.length (capF fl.length cf)] 24)).alloc (.cells #[.int .i64 ak, .int .i64 an, .string as_, .slice Aa al.length (capF al.length ca)] 24)).alloc (.cells #[.int .i64 0, .int .i64 0, .string ⟨#[]⟩, .slice none 0 0] 24)) = W0 at *
  have HC := Lib.hid (failH_any W0)
  obtain ⟨U, hU⟩ : ∃ U, U = failE := ⟨_, rfl⟩
  rw [← hU] at HC HE
  clear hU
  obtain ⟨uk, un, us, ul⟩ := U
  go_wp2_with fail
  refine HC.out.mono ?_
  rintro e w2 ⟨A2, c2, rfl, hT, hb2⟩
  simp only [ev, Te.kind, Te.n, Te.name, Te.parts]
  have lz2 := lz.below hb2 lz.lt
  have hbw := hb0.trans (hb2.mono hb0.size)
  obtain ⟨⟨x0, x1, x2, x3⟩, g0, g1, g2, g3⟩ := lz2.four
  have HT := Lib.hid hT
  have HW := Lib.hid hbw
  clear hT hb2 hbw HC
  go_wp2_with fail
  refine bodyPost_ret (res_term2 (p := 4) (q := 5) Tryz.results38 rfl (lz2.all _ _ _ _)) rfl ?_
  rw [HE.out]
  exact gives_allS HT.out (by omega) lz.lt HW.out _ _ _ _
set_option maxHeartbeats 8000000 in
theorem choose_any (s : Te) (l : List Te) (As Al : Option Addr) (cs0 ml cl : Nat) (w : World) (hm : ml = l.length) (hml : ml ≤ 1000) (hS : EIn w Any s As) (hL : ELIn w Any l Al 0) (hfs : ∀ t ∈ s.parts, FineT t) (hsl : s.parts.length ≤ 1000) (hl1 : ∀ t ∈ l, 1 ≤ t.parts.length ∧ FineT (prt t.parts 0)) :
  Calls Tryz.prog 39 #[ev s As cs0, .slice Al ml cl] w (GivesS (chooseE s l).1 (chooseE s l).2 w) := by
 obtain ⟨sk, sn, ss, sl⟩ := s
 simp only [Te.parts] at hfs hsl
 show Calls Tryz.prog 39 #[.agg #[.int .i64 sk, .int .i64 sn, .string ss, .slice As sl.length (capF sl.length cs0)], .slice Al ml cl] w _
 generalize capF sl.length cs0 = cs
 obtain ⟨ms, hms⟩ : ∃ m, m = sl.length := ⟨_, rfl⟩
 rw [← hms]
 have HMS := Lib.hid hms
 have hms9 : ms ≤ 1000 := by omega
 have hm1 : ml ≤ l.length := by omega
 have hm2 : l.length ≤ ml := by omega
 have hb0 : Below w.heap.size w ((w.alloc (.cells #[.int .i64 sk, .int .i64 sn, .string ss, .slice As ms cs] 24)).alloc (.cells #[.int .i64 0, .int .i64 0, .string ⟨#[]⟩, .slice none 0 0] 24)) := below2_new _ _
 have ls : Lies ((w.alloc (.cells #[.int .i64 sk, .int .i64 sn, .string ss, .slice As ms cs] 24)).alloc (.cells #[.int .i64 0, .int .i64 0, .string ⟨#[]⟩, .slice none 0 0] 24)) w.heap.size 24 #[.int .i64 sk, .int .i64 sn, .string ss, .slice As ms cs] := (Lies.new w _ _).old _
 have lz : Lies ((w.alloc (.cells #[.int .i64 sk, .int .i64 sn, .string ss, .slice As ms cs] 24)).alloc (.cells #[.int .i64 0, .int .i64 0, .string ⟨#[]⟩, .slice none 0 0] 24)) (w.heap.size + 1) 24 #[.int .i64 0, .int .i64 0, .string ⟨#[]⟩, .slice none 0 0] := by simpa using Lies.new (w.alloc (.cells #[.int .i64 sk, .int .i64 sn, .string ss, .slice As ms cs] 24)) 24 #[.int .i64 0, .int .i64 0, .string ⟨#[]⟩, .slice none 0 0]
 have hb0s : w.heap.size + 2 ≤ ((w.alloc (.cells #[.int .i64 sk, .int .i64 sn, .string ss, .slice As ms cs] 24)).alloc (.cells #[.int .i64 0, .int .i64 0, .string ⟨#[]⟩, .slice none 0 0] 24)).heap.size := by simp
 have HSL : Hid (ELIn w Any sl As 0) := Lib.hid (by rw [EIn] at hS; exact hS.2.2)
 have HLL := Lib.hid hL
 have HL1 := Lib.hid hl1
 have HFS : Hid (FineL sl) := Lib.hid (fun t ht => hfs t ht)
 clear hms hm hS hL hfs hl1 hsl
 by_cases hk : sk = 4
 ·have e4 : (sk == 4) = true := by simpa using hk
  have HP0 : Hid (pickE (.node sk sn ss sl) (l.drop 0) = chooseE (.node sk sn ss sl) l) := Lib.hid (by rw [chooseE]; simp [Te.kind, hk])
  clear hk
  go_enter Tryz.func39, Tryz.ntmps39
  go_upto_region 1 with fail
  generalize ((w.alloc (.cells #[.int .i64 sk, .int .i64 sn, .string ss, .slice As ms cs] 24)).alloc (.cells #[.int .i64 0, .int .i64 0, .string ⟨#[]⟩, .slice none 0 0] 24)) = W0 at *
  obtain ⟨⟨y0, _, _, _⟩, _⟩ := ls.four
  go_wp2_with fail
  go_loopw [16] (fun x wr => ∃ i : Nat, i ≤ ml ∧ x = .int .i64 i ∧ Hid (pickE (.node sk sn ss sl) (l.drop i) = chooseE (.node sk sn ss sl) l) ∧ Lies wr w.heap.size 24 #[.int .i64 sk, .int .i64 sn, .string ss, .slice As ms cs] ∧ Lies wr (w.heap.size + 1) 24 #[.int .i64 0, .int .i64 0, .string ⟨#[]⟩, .slice none 0 0] ∧ w.heap.size + 2 ≤ wr.heap.size ∧ Below w.heap.size w wr) (fun x _ => ml - (intOf x).toNat)
  case atStart => exact ⟨0, by omega, rfl, HP0, ls, lz, hb0s, hb0⟩
  case round =>
   clear ls lz hb0s hb0 HP0 y0
   obtain ⟨i, hi, rfl, HP, ls, lz, hsz, hbw⟩ := hrel
   by_cases hlt : i < ml
   ·have hia : i < l.length := by omega
    obtain ⟨g, o, At, ct0, ⟨hA, _⟩, d0, d1, d2, d3, hIn⟩ := ELIn.at_ l HLL.out i hia
    have hgw : g < w.heap.size := cell_lt d0
    subst hA
    simp only [Nat.zero_add] at d0 d1 d2 d3
    have hq1 := HL1.out (l[i]'hia) (List.getElem_mem hia)
    have HPD : Hid (pickE (.node sk sn ss sl) (l.drop i) = if (l[i]'hia).name = ss ∧ (l[i]'hia).n = (sl.length : Int) then (instE (prt (l[i]'hia).parts 0) sl, 2) else pickE (.node sk sn ss sl) (l.drop (i + 1))) := Lib.hid (by rw [List.drop_eq_getElem_cons hia, pickE]; rfl)
    obtain ⟨tr, hu⟩ : ∃ tr, tr = l[i]'hia := ⟨_, rfl⟩
    rw [← hu] at d0 d1 d2 d3 hIn hq1 HPD
    clear hu
    obtain ⟨tk, tn, ts, tl⟩ := tr
    simp only [Te.kind, Te.n, Te.name, Te.parts] at d0 d1 d2 d3 hq1 HPD
    obtain ⟨hl1, hfp⟩ := hq1
    obtain ⟨gp, op, Ap, cp, ⟨hAp, _⟩, p0, p1, p2, p3, hInp⟩ := EIn.part hIn 0 hl1
    simp only [Te.parts] at p0 p1 p2 p3 hInp
    have hpe : prt tl 0 = tl[0]'hl1 := by rw [prt, List.getD_eq_getElem?_getD, List.getElem?_eq_getElem hl1]; rfl
    obtain ⟨P, hP⟩ : ∃ P, P = tl[0]'hl1 := ⟨_, rfl⟩
    rw [← hP] at p0 p1 p2 p3 hInp hpe
    rw [hpe] at hfp HPD
    simp only [Nat.zero_mul, Nat.add_zero] at p0 p1 p2 p3
    subst hAp
    have hgpw : gp < w.heap.size := cell_lt p0
    replace d0 := (hbw.cell (p := ⟨g, _, none⟩) hgw).trans d0
    replace d1 := (hbw.cell (p := ⟨g, _, none⟩) hgw).trans d1
    replace d2 := (hbw.cell (p := ⟨g, _, none⟩) hgw).trans d2
    replace d3 := (hbw.cell (p := ⟨g, _, none⟩) hgw).trans d3
    replace p0 := (hbw.cell (p := ⟨gp, _, none⟩) hgpw).trans p0
    replace p1 := (hbw.cell (p := ⟨gp, _, none⟩) hgpw).trans p1
    replace p2 := (hbw.cell (p := ⟨gp, _, none⟩) hgpw).trans p2
    replace p3 := (hbw.cell (p := ⟨gp, _, none⟩) hgpw).trans p3
    replace hInp := EIn.below _ hInp hbw (Nat.le_refl _)
    have hgp : gp < wr.heap.size := by have := hbw.size; omega
    obtain ⟨mt, hmt⟩ : ∃ m, m = tl.length := ⟨_, rfl⟩
    rw [← hmt] at d3 hl1
    generalize capF mt ct0 = ct at *
    clear hP hpe hmt
    obtain ⟨pk, pn, ps, pl⟩ := P
    simp only [Te.kind, Te.n, Te.name] at p0 p1 p2 p3
    rw [← HMS.out] at HPD
    have lo := Lies.new wr 24 #[.int .i64 tk, .int .i64 tn, .string ts, .slice (some ⟨gp, op, none⟩) mt ct]
    have ls2 := ls.old (.cells #[.int .i64 tk, .int .i64 tn, .string ts, .slice (some ⟨gp, op, none⟩) mt ct] 24)
    have lz2 := lz.old (.cells #[.int .i64 tk, .int .i64 tn, .string ts, .slice (some ⟨gp, op, none⟩) mt ct] 24)
    have hbw2 := hbw.alloc hbw.size (.cells #[.int .i64 tk, .int .i64 tn, .string ts, .slice (some ⟨gp, op, none⟩) mt ct] 24)
    have hsz2 : w.heap.size + 2 ≤ (wr.alloc (.cells #[.int .i64 tk, .int .i64 tn, .string ts, .slice (some ⟨gp, op, none⟩) mt ct] 24)).heap.size := by simp; omega
    have hwr : wr.heap.size < (wr.alloc (.cells #[.int .i64 tk, .int .i64 tn, .string ts, .slice (some ⟨gp, op, none⟩) mt ct] 24)).heap.size := by simp
    obtain ⟨⟨x0, x1, x2, x3⟩, _⟩ := lo.four
    obtain ⟨⟨z0, z1, z2, z3⟩, _⟩ := ls2.four
    have hgs : g < wr.heap.size := by have := hbw.size; omega
    by_cases hn : ts = ss
    ·have en : (ts.toList == ss.toList) = true := by rw [hn]; exact BEq.rfl
     by_cases hc : tn = (ms : Int)
     ·have ec : (tn == (ms : Int)) = true := by simpa using hc
      have HE0 : chooseE (.node sk sn ss sl) l = (instE (.node pk pn ps pl) sl, 2) := HP.out.symm.trans (HPD.out.trans (if_pos ⟨hn, hc⟩))
      clear hn hc HP HPD
      go_upto_region 7 with fail
      have hIn2 : EIn (wr.alloc (.cells #[.int .i64 tk, .int .i64 tn, .string ts, .slice (some ⟨gp, op, none⟩) mt ct] 24)) Any (.node pk pn ps pl) Ap := EIn.below _ hInp ((Below.refl _ wr).alloc (Nat.le_refl _) _) (Nat.le_refl _)
      have p0' := (World.cell?_alloc_lt wr (.cells #[.int .i64 tk, .int .i64 tn, .string ts, .slice (some ⟨gp, op, none⟩) mt ct] 24) ⟨gp, op, none⟩ hgp).trans p0
      have p1' := (World.cell?_alloc_lt wr (.cells #[.int .i64 tk, .int .i64 tn, .string ts, .slice (some ⟨gp, op, none⟩) mt ct] 24) ⟨gp, op + 1, none⟩ hgp).trans p1
      have p2' := (World.cell?_alloc_lt wr (.cells #[.int .i64 tk, .int .i64 tn, .string ts, .slice (some ⟨gp, op, none⟩) mt ct] 24) ⟨gp, op + 2, none⟩ hgp).trans p2
      have p3' := (World.cell?_alloc_lt wr (.cells #[.int .i64 tk, .int .i64 tn, .string ts, .slice (some ⟨gp, op, none⟩) mt ct] 24) ⟨gp, op + 3, none⟩ hgp).trans p3
      clear p0 p1 p2 p3 d0 d1 d2 d3 x0 x1 x2 x3 z0 z1 z2 z3 hIn hInp ls lz
      have lz := lz2
      have hb0 := hbw2
      have hb0lt := hsz2
      generalize wr.alloc (.cells #[.int .i64 tk, .int .i64 tn, .string ts, .slice (some ⟨gp, op, none⟩) mt ct] 24) = V0 at *
      have hgp2 : gp < V0.heap.size := by omega
      have HIN : Hid (∀ X, Below V0.heap.size V0 X → Calls Tryz.prog 64 #[.agg #[.int .i64 pk, .int .i64 pn, .string ps, .slice Ap pl.length (capF pl.length cp)], .slice As ms cs] X fun e w' => ∃ A2 c2, e = .returned (ev (instE (.node pk pn ps pl) sl) A2 c2) ∧ EIn w' (fun g => X.heap.size ≤ g) (instE (.node pk pn ps pl) sl) A2 ∧ Below X.heap.size X w') := Lib.hid fun X hX => by
       rw [HMS.out]
       exact inst_any (.node pk pn ps pl) sl Ap As cp cs X (EIn.below _ hIn2 hX (Nat.le_refl _)) hfp.1 hfp.2.1 hfp.2.2 (ELIn.keep (Y := Any) _ HSL.out fun g j _ h => ⟨(hb0.trans (hX.mono hb0.size)).cell (p := ⟨g, j, none⟩) h, trivial⟩) HFS.out (by have := HMS.out; omega)
      obtain ⟨U, hU⟩ : ∃ U, U = instE (.node pk pn ps pl) sl := ⟨_, rfl⟩
      rw [← hU] at HIN HE0
      clear hU
      have HE := Lib.hid HE0
      obtain ⟨uk, un, us, ul⟩ := U
      simp only [ev, Te.kind, Te.n, Te.name, Te.parts] at HIN
      have HSS : Hid (∀ V', Below V0.heap.size V0 V' → (fun V' : World => (V'.cell? ⟨w.heap.size, 0, none⟩ = some (.int .i64 sk) ∧ V'.cell? ⟨w.heap.size, 1, none⟩ = some (.int .i64 sn) ∧ V'.cell? ⟨w.heap.size, 2, none⟩ = some (.string ss) ∧ V'.cell? ⟨w.heap.size, 3, none⟩ = some (.slice As ms cs) ∧ V'.cell? ⟨wr.heap.size, 0, none⟩ = some (.int .i64 tk) ∧ V'.cell? ⟨wr.heap.size, 1, none⟩ = some (.int .i64 tn) ∧ V'.cell? ⟨wr.heap.size, 2, none⟩ = some (.string ts) ∧ V'.cell? ⟨wr.heap.size, 3, none⟩ = some (.slice (some ⟨gp, op, none⟩) mt ct) ∧ V'.cell? ⟨gp, op, none⟩ = some (.int .i64 pk) ∧ V'.cell? ⟨gp, op + 1, none⟩ = some (.int .i64 pn) ∧ V'.cell? ⟨gp, op + 2, none⟩ = some (.string ps) ∧ V'.cell? ⟨gp, op + 3, none⟩ = some (.slice Ap pl.length (capF pl.length cp)))) V') := Lib.hid fun V' h =>
       ⟨(h.cell (p := ⟨w.heap.size, 0, none⟩) ls2.lt).trans (ls2.cell 0), (h.cell (p := ⟨w.heap.size, 1, none⟩) ls2.lt).trans (ls2.cell 1), (h.cell (p := ⟨w.heap.size, 2, none⟩) ls2.lt).trans (ls2.cell 2), (h.cell (p := ⟨w.heap.size, 3, none⟩) ls2.lt).trans (ls2.cell 3), (h.cell (p := ⟨wr.heap.size, 0, none⟩) lo.lt).trans (lo.cell 0), (h.cell (p := ⟨wr.heap.size, 1, none⟩) lo.lt).trans (lo.cell 1), (h.cell (p := ⟨wr.heap.size, 2, none⟩) lo.lt).trans (lo.cell 2), (h.cell (p := ⟨wr.heap.size, 3, none⟩) lo.lt).trans (lo.cell 3), (h.cell (p := ⟨gp, _, none⟩) hgp2).trans p0', (h.cell (p := ⟨gp, _, none⟩) hgp2).trans p1', (h.cell (p := ⟨gp, _, none⟩) hgp2).trans p2', (h.cell (p := ⟨gp, _, none⟩) hgp2).trans p3'⟩
      clear HE0 hfp p0' p1' p2' p3' hIn2 HL1 HLL hbw hbw2
      have hb_1 : Below V0.heap.size V0 V0 := Below.refl _ _
      refine wp_region_K (S := (fun V' : World => (V'.cell? ⟨w.heap.size, 0, none⟩ = some (.int .i64 sk) ∧ V'.cell? ⟨w.heap.size, 1, none⟩ = some (.int .i64 sn) ∧ V'.cell? ⟨w.heap.size, 2, none⟩ = some (.string ss) ∧ V'.cell? ⟨w.heap.size, 3, none⟩ = some (.slice As ms cs) ∧ V'.cell? ⟨wr.heap.size, 0, none⟩ = some (.int .i64 tk) ∧ V'.cell? ⟨wr.heap.size, 1, none⟩ = some (.int .i64 tn) ∧ V'.cell? ⟨wr.heap.size, 2, none⟩ = some (.string ts) ∧ V'.cell? ⟨wr.heap.size, 3, none⟩ = some (.slice (some ⟨gp, op, none⟩) mt ct) ∧ V'.cell? ⟨gp, op, none⟩ = some (.int .i64 pk) ∧ V'.cell? ⟨gp, op + 1, none⟩ = some (.int .i64 pn) ∧ V'.cell? ⟨gp, op + 2, none⟩ = some (.string ps) ∧ V'.cell? ⟨gp, op + 3, none⟩ = some (.slice Ap pl.length (capF pl.length cp))))) 8 rfl (HSS.out _ hb_1.drew) (fun hSs => ?_)
      change wpAnyK _ _ _ _ _ _ 9 (Array.replicate 9 false) _ _
      refine tkA (i := 0) (oi := ⟨some 33, _, _, _, _, _⟩) (v := .pointer (some ⟨wr.heap.size, 3, none⟩)) hSs ?_
      try go_frame
      refine tkA (i := 1) (oi := ⟨some 34, _, _, _, _, _⟩) (v := .slice (some ⟨gp, op, none⟩) mt ct) hSs ?_
      try go_frame
      refine tkA (i := 2) (oi := ⟨some 35, _, _, _, _, _⟩) (v := .pointer (some ⟨gp, op, none⟩)) hSs ?_
      try go_frame
      refine tkA (i := 3) (oi := ⟨some 36, _, _, _, _, _⟩) (v := .agg #[.int .i64 pk, .int .i64 pn, .string ps, .slice Ap pl.length (capF pl.length cp)]) hSs ?_
      try go_frame
      refine tkA (i := 4) (oi := ⟨some 37, _, _, _, _, _⟩) (v := .pointer (some ⟨w.heap.size, 3, none⟩)) hSs ?_
      try go_frame
      refine tkA (i := 5) (oi := ⟨some 38, _, _, _, _, _⟩) (v := .slice As ms cs) hSs ?_
      try go_frame
      refine wpAnyK_one  (i := 6) rfl rfl (by kernel_rfl) (fun K hK => ?_)
      go_simp
      refine (HIN.out _ (hb_1.drew) ).mono ?_
      rintro e u_2 ⟨A_2, c_2, rfl, hT_2, hq_2⟩
      have hb_2 := (hb_1.drew).trans (hq_2.mono (hb_1.drew).size)
      have lz_2 := (lz.drew).below hq_2 lz.lt
      refine hK.out _ _ (fun _ => HSS.out _ hb_2) (fun hS9 => ?_)
      have hS_2 := hS9 (by decide)
      clear hK K hS9
      try go_frame
      refine wpAnyK_one  (i := 7) rfl rfl (by kernel_rfl) (fun K hK => ?_)
      obtain ⟨z0, z1, z2, z3, z4, z5, z6, z7, z8, z9, z10, z11⟩ := hS_2
      refine wp_store_as (F := fun W9 => (Below w.heap.size w W9 ∧ Lies W9 (w.heap.size + 1) 24 #[.int .i64 uk, .int .i64 un, .string us, .slice A_2 ul.length (capF ul.length c_2)] ∧ EIn W9 (fun b => w.heap.size ≤ b) (.node uk un us ul) A_2) ∧ (fun V' : World => (V'.cell? ⟨w.heap.size, 0, none⟩ = some (.int .i64 sk) ∧ V'.cell? ⟨w.heap.size, 1, none⟩ = some (.int .i64 sn) ∧ V'.cell? ⟨w.heap.size, 2, none⟩ = some (.string ss) ∧ V'.cell? ⟨w.heap.size, 3, none⟩ = some (.slice As ms cs) ∧ V'.cell? ⟨wr.heap.size, 0, none⟩ = some (.int .i64 tk) ∧ V'.cell? ⟨wr.heap.size, 1, none⟩ = some (.int .i64 tn) ∧ V'.cell? ⟨wr.heap.size, 2, none⟩ = some (.string ts) ∧ V'.cell? ⟨wr.heap.size, 3, none⟩ = some (.slice (some ⟨gp, op, none⟩) mt ct) ∧ V'.cell? ⟨gp, op, none⟩ = some (.int .i64 pk) ∧ V'.cell? ⟨gp, op + 1, none⟩ = some (.int .i64 pn) ∧ V'.cell? ⟨gp, op + 2, none⟩ = some (.string ps) ∧ V'.cell? ⟨gp, op + 3, none⟩ = some (.slice Ap pl.length (capF pl.length cp)))) W9) _ _ _ rfl (w.heap.size + 1) 0 #[.int .i64 uk, .int .i64 un, .string us, .slice A_2 ul.length (capF ul.length c_2)] rfl rfl (lies_is lz_2 rfl) (by kernel_rfl) (by simp [Value.oneCell'])
       ⟨⟨below_cells (hb0.trans (hb_2.mono hb0.size)) (by omega) _ _, lies_set4 lz_2 _ _ _ _, EIn.wide _ (ein_offs _ hT_2 (fun h => by have h9 : V0.heap.size ≤ w.heap.size + 1 := h; have := hb0lt; omega) _ _) (fun b hb _ => by have h9 : V0.heap.size ≤ b := hb; have := hb0.size; omega)⟩, ⟨(cell_offs _ (w.heap.size + 1) _ (by omega) _ _ _).trans z0, (cell_offs _ (w.heap.size + 1) _ (by omega) _ _ _).trans z1, (cell_offs _ (w.heap.size + 1) _ (by omega) _ _ _).trans z2, (cell_offs _ (w.heap.size + 1) _ (by omega) _ _ _).trans z3, (cell_offs _ (w.heap.size + 1) _ (by omega) _ _ _).trans z4, (cell_offs _ (w.heap.size + 1) _ (by omega) _ _ _).trans z5, (cell_offs _ (w.heap.size + 1) _ (by omega) _ _ _).trans z6, (cell_offs _ (w.heap.size + 1) _ (by omega) _ _ _).trans z7, (cell_offs _ (w.heap.size + 1) _ (by omega) _ _ _).trans z8, (cell_offs _ (w.heap.size + 1) _ (by omega) _ _ _).trans z9, (cell_offs _ (w.heap.size + 1) _ (by omega) _ _ _).trans z10, (cell_offs _ (w.heap.size + 1) _ (by omega) _ _ _).trans z11⟩⟩ (fun W_3 hF_3 => ?_)
      refine hK.out _ _ (fun _ => hF_3.2) (fun hS9 => ?_)
      have hS_3 := hS9 (by decide)
      clear hK K hS9
      try go_frame
      refine wpAnyK_one  (i := 8) rfl rfl (by kernel_rfl) (fun K hK => ?_)
      go_simp
      refine hK.out _ _ (fun h => absurd rfl h) (fun _ => ?_)
      clear hK K
      try go_frame
      refine wpAnyK_done (by kernel_rfl) ?_ _
      obtain ⟨⟨f1, f2, f3⟩, _⟩ := hF_3
      go_wp2_with fail
      refine bodyPost_ret (res_term2 (p := 4) (q := 5) Tryz.results39 rfl f2) rfl ?_
      rw [HE.out]
      exact ⟨A_2, c_2, rfl, f3, f1⟩
     ·have ec : (tn == (ms : Int)) = false := by simpa using hc
      have HR : Hid (pickE (.node sk sn ss sl) (l.drop (i + 1)) = chooseE (.node sk sn ss sl) l) := Lib.hid ((HPD.out.trans (if_neg (fun h => hc h.2))).symm.trans HP.out)
      clear hn hc HP HPD
      go_wp2_with fail
      go_roundw
      case rel => exact ⟨i + 1, by omega, by go_num, HR, ls2, lz2, hsz2, hbw2⟩
      case measure => simp [intOf]; omega
    ·have en : (ts.toList == ss.toList) = false := by rw [strE_q, decide_eq_false hn]
     have HR : Hid (pickE (.node sk sn ss sl) (l.drop (i + 1)) = chooseE (.node sk sn ss sl) l) := Lib.hid ((HPD.out.trans (if_neg (fun h => hn h.1))).symm.trans HP.out)
     clear hn HP HPD
     go_wp2_with fail
     go_roundw
     case rel => exact ⟨i + 1, by omega, by go_num, HR, ls2, lz2, hsz2, hbw2⟩
     case measure => simp [intOf]; omega
   ·have HE : Hid (chooseE (.node sk sn ss sl) l = (failE, 4)) := Lib.hid (by rw [← HP.out, List.drop_of_length_le (by omega), pickE])
    have hb0 := hbw
    clear HP
    have HC := Lib.hid (failH_any wr)
    obtain ⟨U, hU⟩ : ∃ U, U = failE := ⟨_, rfl⟩
    rw [← hU] at HC HE
    clear hU
    obtain ⟨uk, un, us, ul⟩ := U
    go_wp2_with fail
    refine HC.out.mono ?_
    rintro e w2 ⟨A2, c2, rfl, hT, hb2⟩
    simp only [ev, Te.kind, Te.n, Te.name, Te.parts]
    have lz2 := lz.below hb2 lz.lt
    have hbw := hb0.trans (hb2.mono hb0.size)
    obtain ⟨⟨x0, x1, x2, x3⟩, g0, g1, g2, g3⟩ := lz2.four
    have HT := Lib.hid hT
    have HW := Lib.hid hbw
    clear hT hb2 hbw HC
    go_wp2_with fail
    refine bodyPost_ret (res_term2 (p := 4) (q := 5) Tryz.results39 rfl (lz2.all _ _ _ _)) rfl ?_
    rw [HE.out]
    exact gives_allS HT.out (by omega) lz.lt HW.out _ _ _ _
 ·have e4 : (sk == 4) = false := by simpa using hk
  have HE : Hid (chooseE (.node sk sn ss sl) l = (failE, 4)) := Lib.hid (by rw [chooseE]; exact if_neg hk)
  clear hk
  go_enter Tryz.func39, Tryz.ntmps39
  go_upto_region 1 with fail
  generalize ((w.alloc (.cells #[.int .i64 sk, .int .i64 sn, .string ss, .slice As ms cs] 24)).alloc (.cells #[.int .i64 0, .int .i64 0, .string ⟨#[]⟩, .slice none 0 0] 24)) = W0 at *
  obtain ⟨⟨y0, _, _, _⟩, _⟩ := ls.four
  have HC := Lib.hid (failH_any W0)
  obtain ⟨U, hU⟩ : ∃ U, U = failE := ⟨_, rfl⟩
  rw [← hU] at HC HE
  clear hU
  obtain ⟨uk, un, us, ul⟩ := U
  go_wp2_with fail
  refine HC.out.mono ?_
  rintro e w2 ⟨A2, c2, rfl, hT, hb2⟩
  simp only [ev, Te.kind, Te.n, Te.name, Te.parts]
  have lz2 := lz.below hb2 lz.lt
  have hbw := hb0.trans (hb2.mono hb0.size)
  obtain ⟨⟨x0, x1, x2, x3⟩, g0, g1, g2, g3⟩ := lz2.four
  have HT := Lib.hid hT
  have HW := Lib.hid hbw
  clear hT hb2 hbw HC
  go_wp2_with fail
  refine bodyPost_ret (res_term2 (p := 4) (q := 5) Tryz.results39 rfl (lz2.all _ _ _ _)) rfl ?_
  rw [HE.out]
  exact gives_allS HT.out (by omega) lz.lt HW.out _ _ _ _
end Lx
end Go.Proofs.YtiocmiikghcoaaaGreatDoor
