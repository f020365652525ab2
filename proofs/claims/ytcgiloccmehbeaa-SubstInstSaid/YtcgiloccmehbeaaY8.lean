/-
  Texts that lie one behind the other: SuPl SuMy.
-/
import Derived.Test.YtcgiloccmehbeaaY1
import Derived.Test.YtcgiloccmehbeaaY6
import Derived.Test.YtcgiloccmehbeaaK3
import Derived.Deep.DeepCutAuto
namespace Go.Proofs.Ytcgiloccmehbeaa
namespace Lx
set_option maxRecDepth 100000
mutual
/-- Variables have no parts; alternatives have no number below 0. -/
def wfE : Te → Prop
  | .node k n _ l => (k = 1 → l = []) ∧ (k = 6 → 0 ≤ n) ∧ wfEL l
def wfEL : List Te → Prop
  | [] => True
  | t :: r => wfE t ∧ wfEL r
end
mutual
/-- All variables are bound, or among the first f. -/
def clE : Te → Int → Prop
  | .node k n _ l, f => (k = 1 → 0 ≤ n ∧ n < f ∧ l = []) ∧ (k = 6 → 0 ≤ n ∧ n ≤ 8) ∧ clEL l (f + moreE k n)
def clEL : List Te → Int → Prop
  | [], _ => True
  | t :: r, f => clE t f ∧ clEL r f
end
theorem more_nn {k n : Int} (h : k = 6 → 0 ≤ n) : 0 ≤ moreE k n := by
  rw [moreE]
  split
  · omega
  · split
    · rename_i h6; exact h h6
    · omega
mutual
theorem clE_wf : ∀ (t : Te) (f : Int), clE t f → wfE t
  | .node k n s l, f, h => by
    rw [clE] at h; rw [wfE]
    exact ⟨fun e => (h.1 e).2.2, fun e => (h.2.1 e).1, clEL_wf l _ h.2.2⟩
theorem clEL_wf : ∀ (l : List Te) (f : Int), clEL l f → wfEL l
  | [], _, _ => by rw [wfEL]; trivial
  | t :: r, f, h => by rw [clEL] at h; rw [wfEL]; exact ⟨clE_wf t f h.1, clEL_wf r f h.2⟩
end
mutual
theorem clE_tame : ∀ (t : Te) (f : Int), clE t f → tameE (f + 8 * depthE t + 1000) 8 t
  | .node k n s l, f, h => by
    rw [clE] at h; rw [tameE]
    have hm : moreE k n ≤ 8 := by
      rw [moreE]
      split
      · omega
      · split
        · rename_i h6; exact (h.2.1 h6).2
        · omega
    have hd : depthE (.node k n s l) = depthEL l + 1 := by rw [depthE]
    refine ⟨fun e => ?_, fun e => by have := h.2.1 e; omega, tameEL_mono (by omega) (Int.le_refl _) l (clEL_tame l _ h.2.2)⟩
    have := h.1 e
    exact ⟨by omega, by omega, this.2.2⟩
theorem clEL_tame : ∀ (l : List Te) (f : Int), clEL l f → tameEL (f + 8 * depthEL l + 1000) 8 l
  | [], _, _ => by rw [tameEL]; trivial
  | t :: r, f, h => by
    rw [clEL] at h; rw [tameEL, depthEL]
    exact ⟨tameE_mono (by omega) (Int.le_refl _) t (clE_tame t f h.1), tameEL_mono (by omega) (Int.le_refl _) r (clEL_tame r f h.2)⟩
end
mutual
/-- What is gone through twice, is as gone through once, if it is so at variables. -/
theorem ch_comp {F G H : Int → ByteArray → Int → Te} {p q r : Int} (hv : ∀ n s b, 0 ≤ b → chE G (F n s (p + b)) (q + b) = H n s (r + b)) : ∀ (t : Te) (b : Int), 0 ≤ b → wfE t → chE G (chE F t (p + b)) (q + b) = chE H t (r + b)
  | .node k n s l, b, hb, hw => by
    rw [wfE] at hw
    by_cases hk : k = 1
    · rw [chE.eq_1 F, chE.eq_1 H, if_pos hk, if_pos hk]; exact hv n s b hb
    · have hm := more_nn hw.2.1
      rw [chE.eq_1 F, if_neg hk, chE.eq_1 G, if_neg hk, chE.eq_1 H, if_neg hk]
      have := ch_compL hv l (b + moreE k n) (by omega) hw.2.2
      rw [show p + (b + moreE k n) = p + b + moreE k n by omega, show q + (b + moreE k n) = q + b + moreE k n by omega, show r + (b + moreE k n) = r + b + moreE k n by omega] at this
      rw [this]
theorem ch_compL {F G H : Int → ByteArray → Int → Te} {p q r : Int} (hv : ∀ n s b, 0 ≤ b → chE G (F n s (p + b)) (q + b) = H n s (r + b)) : ∀ (l : List Te) (b : Int), 0 ≤ b → wfEL l → chEL G (chEL F l (p + b)) (q + b) = chEL H l (r + b)
  | [], _, _, _ => by rw [chEL, chEL, chEL]
  | t :: r', b, hb, hw => by rw [wfEL] at hw; rw [chEL.eq_2 F, chEL.eq_2 G, chEL.eq_2 H, ch_comp hv t b hb hw.1, ch_compL hv r' b hb hw.2]
end
mutual
/-- Two ways to go through twice agree, if they do at variables. -/
theorem ch_two {F G F' G' : Int → ByteArray → Int → Te} {p q p' q' : Int} (hv : ∀ n s b, 0 ≤ b → chE G (F n s (p + b)) (q + b) = chE G' (F' n s (p' + b)) (q' + b)) : ∀ (t : Te) (b : Int), 0 ≤ b → wfE t → chE G (chE F t (p + b)) (q + b) = chE G' (chE F' t (p' + b)) (q' + b)
  | .node k n s l, b, hb, hw => by
    rw [wfE] at hw
    by_cases hk : k = 1
    · rw [chE.eq_1 F, chE.eq_1 F', if_pos hk, if_pos hk]; exact hv n s b hb
    · have hm := more_nn hw.2.1
      rw [chE.eq_1 F, if_neg hk, chE.eq_1 G, if_neg hk, chE.eq_1 F', if_neg hk, chE.eq_1 G', if_neg hk]
      have := ch_twoL hv l (b + moreE k n) (by omega) hw.2.2
      rw [show p + (b + moreE k n) = p + b + moreE k n by omega, show q + (b + moreE k n) = q + b + moreE k n by omega, show p' + (b + moreE k n) = p' + b + moreE k n by omega, show q' + (b + moreE k n) = q' + b + moreE k n by omega] at this
      rw [this]
theorem ch_twoL {F G F' G' : Int → ByteArray → Int → Te} {p q p' q' : Int} (hv : ∀ n s b, 0 ≤ b → chE G (F n s (p + b)) (q + b) = chE G' (F' n s (p' + b)) (q' + b)) : ∀ (l : List Te) (b : Int), 0 ≤ b → wfEL l → chEL G (chEL F l (p + b)) (q + b) = chEL G' (chEL F' l (p' + b)) (q' + b)
  | [], _, _, _ => by simp only [chEL]
  | t :: r', b, hb, hw => by rw [wfEL] at hw; rw [chEL.eq_2 F, chEL.eq_2 G, chEL.eq_2 F', chEL.eq_2 G', ch_two hv t b hb hw.1, ch_twoL hv r' b hb hw.2]
end
mutual
/-- What changes no variable changes nothing. -/
theorem ch_id {F : Int → ByteArray → Int → Te} {p f : Int} (hv : ∀ n s b, 0 ≤ b → 0 ≤ n → n < f + b → F n s (p + b) = .node 1 n s []) : ∀ (t : Te) (b : Int), 0 ≤ b → clE t (f + b) → chE F t (p + b) = t
  | .node k n s l, b, hb, hw => by
    rw [clE] at hw
    by_cases hk : k = 1
    · have := hw.1 hk
      rw [chE, if_pos hk, hv n s b hb this.1 this.2.1, hk, this.2.2]
    · have hm := more_nn (fun e => (hw.2.1 e).1)
      have := ch_idL hv l (b + moreE k n) (by omega) (by rw [show f + (b + moreE k n) = f + b + moreE k n by omega]; exact hw.2.2)
      rw [show p + (b + moreE k n) = p + b + moreE k n by omega] at this
      rw [chE, if_neg hk, this]
theorem ch_idL {F : Int → ByteArray → Int → Te} {p f : Int} (hv : ∀ n s b, 0 ≤ b → 0 ≤ n → n < f + b → F n s (p + b) = .node 1 n s []) : ∀ (l : List Te) (b : Int), 0 ≤ b → clEL l (f + b) → chEL F l (p + b) = l
  | [], _, _, _ => by rw [chEL]
  | t :: r', b, hb, hw => by rw [clEL] at hw; rw [chEL, ch_id hv t b hb hw.1, ch_idL hv r' b hb hw.2]
end
mutual
theorem ch_same : ∀ (t : Te) (b : Int), wfE t → chE (fun n s _ => .node 1 n s []) t b = t
  | .node k n s l, b, h => by
    rw [wfE] at h
    by_cases hk : k = 1
    · rw [chE, if_pos hk, hk, h.1 hk]
    · rw [chE, if_neg hk, ch_sameL l _ h.2.2]
theorem ch_sameL : ∀ (l : List Te) (b : Int), wfEL l → chEL (fun n s _ => .node 1 n s []) l b = l
  | [], _, _ => by rw [chEL]
  | t :: r, b, h => by rw [wfEL] at h; rw [chEL, ch_same t b h.1, ch_sameL r b h.2]
end
theorem v_up (u n : Int) (s : ByteArray) (f : Int) : chE (upF u) (.node 1 n s []) f = .node 1 (if f ≤ n then n + u else n) s [] := by rw [chE, if_pos rfl, upF]
theorem v_put (k : Int) (x : Te) (n : Int) (s : ByteArray) (b : Int) : chE (putF k x) (.node 1 n s []) b = putF k x n s b := by rw [chE, if_pos rfl]
/-- Moved up twice, from one place on. -/
theorem up_up {t : Te} (hw : wfE t) (u d g : Int) (hu : 0 ≤ u) (hg : 0 ≤ g) : chE (upF d) (chE (upF u) t g) g = chE (upF (u + d)) t g := by
  have := ch_comp (F := upF u) (G := upF d) (H := upF (u + d)) (p := 0) (q := 0) (r := 0) (fun n s b _ => by
    rw [upF, v_up, upF]; congr 1; (repeat' split) <;> omega) t g hg hw
  simpa using this
/-- Moved up, and then from where that leads. -/
theorem up_after {t : Te} (hw : wfE t) (e d : Int) (he : 0 ≤ e) : chE (upF d) (chE (upF e) t 0) e = chE (upF (e + d)) t 0 := by
  have := ch_comp (F := upF e) (G := upF d) (H := upF (e + d)) (p := 0) (q := e) (r := 0) (fun n s b _ => by
    rw [upF, v_up, upF]; congr 1; (repeat' split) <;> omega) t 0 (by omega) hw
  simpa using this
/-- What was moved up past the place has nothing there. -/
theorem put_past {t x : Te} (hw : wfE t) (d : Int) (hd : 0 ≤ d) : chE (putF 0 x) (chE (upF (d + 1)) t 0) d = chE (upF d) t 0 := by
  have := ch_comp (F := upF (d + 1)) (G := putF 0 x) (H := upF d) (p := 0) (q := d) (r := 0) (fun n s b hb => by
    rw [upF, v_put, putF, upF, if_neg (by split <;> omega)]; congr 1; (repeat' split) <;> omega) t 0 (by omega) hw
  simpa using this
/-- To put, and to move up, in either order. -/
theorem put_up_swap {t c : Te} (hw : wfE t) (hc : wfE c) (k d : Int) (hk : 0 ≤ k) (hd : 0 ≤ d) : chE (putF k c) (chE (upF d) t 0) d = chE (upF d) (chE (putF k c) t 0) 0 := by
  have := ch_two (F := upF d) (G := putF k c) (F' := putF k c) (G' := upF d) (p := 0) (q := d) (p' := 0) (q' := 0) (fun n s b hb => by
    simp only [Int.zero_add]
    rw [upF, v_put, putF, putF]
    by_cases h : n = k + b
    · rw [if_pos (show (if b ≤ n then n + d else n) = k + (d + b) by split <;> omega), if_pos h, upE, upE, up_after hc b d hb]
      congr 2; omega
    · rw [if_neg (show ¬ (if b ≤ n then n + d else n) = k + (d + b) by split <;> omega), if_neg h, v_up]
      congr 1; (repeat' split) <;> omega) t 0 (by omega) hw
  simpa using this
/-- Put where it was moved up by one. -/
theorem put_back {t x : Te} {f : Int} (hw : wfE t) (hl : clE t f) (k : Int) : chE (putF k x) (chE (upF 1) t k) 0 = t := by
  have h1 := ch_comp (F := upF 1) (G := putF k x) (H := fun n s _ => .node 1 n s []) (p := k) (q := 0) (r := 0) (fun n s b hb => by
    rw [upF, v_put, putF, if_neg (by split <;> omega)]; congr 1; (repeat' split) <;> omega) t 0 (by omega) hw
  rw [ch_id (F := fun n s _ => .node 1 n s []) (f := f) (fun n s b _ _ _ => rfl) t 0 (by omega) (by simpa using hl)] at h1
  simpa using h1
mutual
theorem wf_up : ∀ (t : Te) (u f : Int), wfE t → wfE (chE (upF u) t f)
  | .node k n s l, u, f, h => by
    rw [chE]
    rw [wfE] at h
    split
    · rw [upF, wfE, wfEL]; exact ⟨fun _ => rfl, fun e => by omega, trivial⟩
    · rename_i hk; rw [wfE]; exact ⟨fun e => absurd e hk, h.2.1, wf_upL l u _ h.2.2⟩
theorem wf_upL : ∀ (l : List Te) (u f : Int), wfEL l → wfEL (chEL (upF u) l f)
  | [], _, _, _ => by rw [chEL, wfEL]; trivial
  | t :: r, u, f, h => by rw [wfEL] at h; rw [chEL, wfEL]; exact ⟨wf_up t u f h.1, wf_upL r u f h.2⟩
end
mutual
theorem wf_put : ∀ (t : Te) (k : Int) (x : Te) (b : Int), wfE x → wfE t → wfE (chE (putF k x) t b)
  | .node k' n s l, k, x, b, hx, h => by
    rw [chE]
    rw [wfE] at h
    split
    · rw [putF]
      split
      · exact wf_up x b 0 hx
      · rw [wfE, wfEL]; exact ⟨fun _ => rfl, fun e => by omega, trivial⟩
    · rename_i hk; rw [wfE]; exact ⟨fun e => absurd e hk, h.2.1, wf_putL l k x _ hx h.2.2⟩
theorem wf_putL : ∀ (l : List Te) (k : Int) (x : Te) (b : Int), wfE x → wfEL l → wfEL (chEL (putF k x) l b)
  | [], _, _, _, _, _ => by rw [chEL, wfEL]; trivial
  | t :: r, k, x, b, hx, h => by rw [wfEL] at h; rw [chEL, wfEL]; exact ⟨wf_put t k x b hx h.1, wf_putL r k x b hx h.2⟩
end
/-- The stage's theorem, plainly. -/
theorem put_put {a b c : Te} (ha : wfE a) (hb : wfE b) (hc : wfE c) : putE (putE a 0 b) 0 c = putE (putE a 1 (upE c 1 0)) 0 (putE b 0 c) := by
  have := ch_two (F := putF 0 b) (G := putF 0 c) (F' := putF 1 (upE c 1 0)) (G' := putF 0 (putE b 0 c)) (p := 0) (q := 0) (p' := 0) (q' := 0) (fun n s d hd => by
    simp only [Int.zero_add]
    have L : putF 0 b n s d = (if n = d then upE b d 0 else .node 1 (if d < n then n - 1 else n) s []) := by rw [putF, Int.zero_add]
    have R : putF 1 (upE c 1 0) n s d = (if n = 1 + d then upE (upE c 1 0) d 0 else .node 1 (if 1 + d < n then n - 1 else n) s []) := by rw [putF]
    rw [L, R]
    by_cases h0 : n = d
    · rw [if_pos h0, if_neg (show ¬ n = 1 + d by omega), if_neg (show ¬ 1 + d < n by omega), v_put, putF, if_pos (show n = 0 + d by omega), upE, upE, put_up_swap hb hc 0 d (by omega) hd]
      rfl
    · by_cases h1 : n = 1 + d
      · rw [if_neg h0, if_pos h1, if_pos (show d < n by omega), v_put, putF, if_pos (show n - 1 = 0 + d by omega), upE, upE, upE, up_up hc 1 d 0 (by omega) (by omega), Int.add_comm 1 d, put_past hc d hd]
      · rw [if_neg h0, if_neg h1, v_put, v_put, putF, putF]
        by_cases h2 : n < d
        · rw [if_neg (show ¬ d < n by omega), if_neg (show ¬ 1 + d < n by omega), if_neg (show ¬ n = 0 + d by omega), if_neg (show ¬ n = 0 + d by omega)]
        · rw [if_pos (show d < n by omega), if_pos (show 1 + d < n by omega), if_neg (show ¬ n - 1 = 0 + d by omega), if_neg (show ¬ n - 1 = 0 + d by omega)]) a 0 (by omega) ha
  simpa [putE] using this
theorem up_none {t : Te} {f : Int} (h : clE t f) : upE t 0 0 = t := by
  have := ch_id (F := upF 0) (p := 0) (f := f) (fun n s b _ _ _ => by rw [upF]; congr 1; split <;> omega) t 0 (by omega) (by simpa using h)
  simpa [upE] using this
theorem up_far {t : Te} {f : Int} (h : clE t f) (u g : Int) (hg : f ≤ g) : upE t u g = t := by
  have := ch_id (F := upF u) (p := g) (f := f) (fun n s b _ _ _ => by rw [upF, if_neg (by omega)]) t 0 (by omega) (by simpa using h)
  simpa [upE] using this
theorem put_far {t : Te} (h : clE t 0) (k : Int) (x : Te) (hk : 0 ≤ k) : putE t k x = t := by
  have := ch_id (F := putF k x) (p := 0) (f := 0) (fun n s b _ _ _ => by rw [putF, if_neg (by omega), if_neg (by omega)]) t 0 (by omega) (by simpa using h)
  simpa [putE] using this
/-- Under a function. -/
theorem put_lam {t x : Te} (ht : wfE t) (hx : wfE x) (k : Int) : chE (putF k x) t 1 = putE t (k + 1) (upE x 1 0) := by
  have := ch_comp (F := fun n s _ => .node 1 n s []) (G := putF k x) (H := putF (k + 1) (upE x 1 0)) (p := 0) (q := 1) (r := 0) (fun n s b hb => by
    rw [v_put, putF, putF]
    by_cases h : n = k + (1 + b)
    · rw [if_pos h, if_pos (show n = k + 1 + (0 + b) by omega), upE, upE, upE, up_up hx 1 (0 + b) 0 (by omega) (by omega)]; simp
    · rw [if_neg h, if_neg (show ¬ n = k + 1 + (0 + b) by omega)]; congr 1; (repeat' split) <;> omega) t 0 (by omega) ht
  have h2 : ∀ t : Te, wfE t → chE (fun n s _ => .node 1 n s []) t (0 + 0) = t := by
    intro t h
    have := ch_same t 0 h
    simpa using this
  rw [h2 t ht] at this
  simpa [putE] using this
end Lx
end Go.Proofs.Ytcgiloccmehbeaa
namespace Go.Proofs.Ytcgiloccmehbeaa
open Go.RowKit
namespace Lx
set_option maxRecDepth 100000
theorem strE_empty (s : ByteArray) : s.toList.isEmpty = (s.data.toList == []) := by rw [data_list]; cases s.data.toList <;> rfl
def conW (s : ByteArray) : Bool := kindV 2 s.data.toList
set_option maxHeartbeats 2000000 in
theorem con6_any (s : ByteArray) (w : World) (hs : s.size ≤ 140737488351232) :
    Calls Try.prog 42 #[.string s] w fun e w' => e = .returned (.bool (conW s)) ∧ Below w.heap.size w w' := by
  by_cases h0 : s.size = 0
  · have hl : s.data.toList = [] := List.eq_nil_of_length_eq_zero (by rw [← Lib.size_eq]; exact h0)
    have e3 : s.toList = [] := by rw [data_list]; exact hl
    have HF : Hid (conW s = false) := by
      show _ = _
      rw [conW, hl]; rfl
    clear hl h0
    go_enter Try.func42, Try.ntmps42
    go_wp2_with fail
    go_ret
    exact ⟨ret_bool HF.out.symm, Below.refl _ _⟩
  · have hl : s.data.toList ≠ [] := by
      intro e
      have := congrArg List.length e
      rw [← Lib.size_eq] at this
      exact h0 this
    have e3 : s.toList.isEmpty = false := by rw [data_list]; cases h : s.data.toList with | nil => exact absurd h hl | cons _ _ => rfl
    have HK : Hid (refTokV s.data.toList 2 = conW s) := Lib.hid (refTok_kind s.data.toList 2 (.inr rfl) hl)
    have HO := Lib.hid (one_both s 0 w (by omega) hs)
    rw [List.drop_zero] at HO
    cases ht : tokK s.data.toList with
    | error x =>
      have hx := tokK_err ht
      have hx0 : (x == 0) = false := by rcases hx with rfl | rfl <;> rfl
      have hf : refTokV s.data.toList 2 = false := by unfold refTokV; rw [ht]
      have HF := Lib.hid hf
      have HT := Lib.hid ht
      clear ht hf hl h0
      go_enter Try.func42, Try.ntmps42
      go_wp2_with fail
      refine HO.out.mono ?_
      rintro e w2 ⟨_, he, hb2⟩
      have he2 := he x HT.out
      subst he2
      clear he
      unfold noTokR
      go_wp2_with fail
      go_ret
      exact ⟨ret_bool (by rw [← HK.out, HF.out]), hb2.alloc hb2.size _⟩
    | ok r =>
      obtain ⟨kd, n, t⟩ := r
      have hf : refTokV s.data.toList 2 = (decide (kd = 2) && (t == s.data.toList)) := by unfold refTokV; rw [ht]
      have HF := Lib.hid hf
      have HT := Lib.hid ht
      clear ht hf hl h0
      by_cases hkd : kd = 2
      · subst hkd
        go_enter Try.func42, Try.ntmps42
        go_wp2_with fail
        refine HO.out.mono ?_
        rintro e w2 ⟨he, _, hb2⟩
        have he2 := he 2 n t HT.out
        subst he2
        clear he
        unfold tokR
        go_wp2_with fail
        go_ret
        exact ⟨ret_bool (by rw [← HK.out, HF.out, data_list]; simp), hb2.alloc hb2.size _⟩
      · have e1 : (kd == 2) = false := by simpa using hkd
        go_enter Try.func42, Try.ntmps42
        go_wp2_with fail
        refine HO.out.mono ?_
        rintro e w2 ⟨he, _, hb2⟩
        have he2 := he kd n t HT.out
        subst he2
        clear he
        unfold tokR
        go_wp2_with fail
        go_ret
        exact ⟨ret_bool (by rw [← HK.out, HF.out]; simp [hkd]), hb2.alloc hb2.size _⟩
/-- Kind, N, Name and the number of parts. -/
def headR (k n : Int) (s : ByteArray) (m : Nat) (free : Int) (alt : Bool) : Bool :=
  if alt then decide (k = 6) && (conW s && (decide (0 ≤ n) && (decide (n ≤ 8) && decide (m = 1))))
  else if k = 1 then s.toList.isEmpty && (decide (m = 0) && (decide (0 ≤ n) && decide (n < free)))
  else if k = 2 then (s.toList.isEmpty && decide (n = 0)) && decide (m = 1)
  else if k = 3 then (s.toList.isEmpty && decide (n = 0)) && decide (m = 2)
  else if k = 4 then conW s && (decide (n = 0) && decide (m ≤ 8))
  else if k = 5 then (s.toList.isEmpty && decide (n = 0)) && (decide (2 ≤ m) && decide (m ≤ 9))
  else if k = 7 then s.toList.isEmpty && decide (m = 0)
  else if k = 8 then opV s.data.toList && (decide (n = 0) && decide (m = 2))
  else if k = 9 then (s.toList.isEmpty && decide (n = 0)) && decide (m = 0)
  else false
set_option maxHeartbeats 8000000 in
theorem head6_any (k n free : Int) (s : ByteArray) (A : Option Addr) (m c : Nat) (alt : Bool) (w : World) (hs : s.size ≤ 140737488351232) (hm : m ≤ 140737488351232) :
    Calls Try.prog 40 #[.agg #[.int .i64 k, .int .i64 n, .string s, .slice A m c], .int .i64 free, .bool alt] w fun e w' => e = .returned (.bool (headR k n s m free alt)) ∧ Below w.heap.size w w' := by
  obtain ⟨W0, hW0⟩ : ∃ W, W = w.alloc (.cells #[.int .i64 k, .int .i64 n, .string s, .slice A m c] 24) := ⟨_, rfl⟩
  have hb : Below w.heap.size w W0 := by rw [hW0]; exact (Below.refl _ w).alloc (Nat.le_refl _) _
  have l0 : Lies W0 w.heap.size 24 #[.int .i64 k, .int .i64 n, .string s, .slice A m c] := by rw [hW0]; exact Lies.new w _ _
  have HC := Lib.hid (fun X => con6_any s X hs)
  obtain ⟨c0, c1, c2, c3⟩ := l0.four.1
  go_enter Try.func40, Try.ntmps40
  go_upto_region 2 with fail
  rw [← hW0]
  have HB := Lib.hid hb
  have L0 := Lib.hid l0
  clear hW0 hb l0
  go_cut [8] (fun v wx => v = .bool (opV s.data.toList) ∧ wx = W0)
  case first =>
    go_wp2_with fail
    all_goals
      go_meet
      refine ⟨?_, rfl⟩
      rw [← data_list]
      simp_all [opV, Bool.or_assoc]
  case rest =>
    obtain ⟨rfl, rfl⟩ := hcut
    obtain ⟨ob, hob⟩ : ∃ b, b = opV s.data.toList := ⟨_, rfl⟩
    rw [← hob]
    obtain ⟨eb, heb⟩ : ∃ b, b = s.toList.isEmpty := ⟨_, rfl⟩
    have heb' : s.toList.isEmpty = eb := heb.symm
    have HO := Lib.hid hob
    have HE := Lib.hid heb
    clear hob heb
    cases alt
    · rcases (by omega : k = 1 ∨ k = 2 ∨ k = 3 ∨ k = 4 ∨ k = 5 ∨ k = 7 ∨ k = 8 ∨ k = 9 ∨ (k ≠ 1 ∧ k ≠ 2 ∧ k ≠ 3 ∧ k ≠ 4 ∧ k ≠ 5 ∧ k ≠ 7 ∧ k ≠ 8 ∧ k ≠ 9)) with rfl | rfl | rfl | rfl | rfl | rfl | rfl | rfl | hk
      case inr.inr.inr.inl =>
        have HCw := Lib.hid (HC.out wc)
        obtain ⟨cb, hcb⟩ : ∃ b, b = conW s := ⟨_, rfl⟩
        rw [← hcb] at HCw
        have HCB := Lib.hid hcb
        clear hcb HC
        cases cb
        · go_wp2_with fail
          all_goals
            refine HCw.out.mono ?_
            rintro e w2 ⟨rfl, hb2⟩
            go_wp2_with fail
            go_ret
            refine ⟨ret_bool ?_, HB.out.trans (hb2.mono HB.out.size)⟩
            simp [headR, ← HCB.out]
        · by_cases hn : n = 0
          · go_wp2_with fail
            all_goals
              refine HCw.out.mono ?_
              rintro e w2 ⟨rfl, hb2⟩
              have L2 := L0.out.below hb2 L0.out.lt
              obtain ⟨f0, f1, f2, f3⟩ := L2.four.1
              go_wp2_with fail
              all_goals
                go_ret
                refine ⟨ret_bool ?_, HB.out.trans (hb2.mono HB.out.size)⟩
                simp [headR, ← HCB.out, hn]
                try omega
          · have hn' : (n == 0) = false := by simpa using hn
            go_wp2_with fail
            all_goals
              refine HCw.out.mono ?_
              rintro e w2 ⟨rfl, hb2⟩
              have L2 := L0.out.below hb2 L0.out.lt
              obtain ⟨f0, f1, f2, f3⟩ := L2.four.1
              go_wp2_with fail
              all_goals
                go_ret
                refine ⟨ret_bool ?_, HB.out.trans (hb2.mono HB.out.size)⟩
                simp [headR, ← HCB.out, hn]
                try omega
      case inr.inr.inr.inr.inr.inr.inr.inr =>
        obtain ⟨n1, n2, n3, n4, n5, n7, n8, n9⟩ := hk
        have e1 : (k == 1) = false := by simpa using n1
        have e2 : (k == 2) = false := by simpa using n2
        have e3 : (k == 3) = false := by simpa using n3
        have e4 : (k == 4) = false := by simpa using n4
        have e5 : (k == 5) = false := by simpa using n5
        have e7 : (k == 7) = false := by simpa using n7
        have e8 : (k == 8) = false := by simpa using n8
        have e9 : (k == 9) = false := by simpa using n9
        have HF : Hid (headR k n s m free false = false) := by
          refine Lib.hid ?_
          simp [headR, n1, n2, n3, n4, n5, n7, n8, n9]
        clear n1 n2 n3 n4 n5 n7 n8 n9 HC
        go_wp2_with fail
        all_goals
          go_ret
          exact ⟨ret_bool HF.out.symm, HB.out⟩
      all_goals clear HC
      all_goals
        go_wp2_with fail
        all_goals
          go_ret
          refine ⟨ret_bool ?_, HB.out⟩
          have hE := HE.out
          have hO := HO.out
          rw [Bool.eq_iff_iff]
          simp [headR, ← hE, ← hO]
          clear hE hO heb' HE HO
          clear c0 c1 c2 c3 L0 HB
          try (first | omega | grind)
    · by_cases hk : k = 6
      · subst hk
        have HCw := Lib.hid (HC.out wc)
        obtain ⟨cb, hcb⟩ : ∃ b, b = conW s := ⟨_, rfl⟩
        rw [← hcb] at HCw
        have HCB := Lib.hid hcb
        clear hcb HC
        cases cb
        · go_wp2_with fail
          all_goals
            refine HCw.out.mono ?_
            rintro e w2 ⟨rfl, hb2⟩
            go_wp2_with fail
            go_ret
            refine ⟨ret_bool ?_, HB.out.trans (hb2.mono HB.out.size)⟩
            simp [headR, ← HCB.out]
        · by_cases hn0 : 0 ≤ n
          · by_cases hn8 : n ≤ 8
            · go_wp2_with fail
              all_goals
                refine HCw.out.mono ?_
                rintro e w2 ⟨rfl, hb2⟩
                have L2 := L0.out.below hb2 L0.out.lt
                obtain ⟨f0, f1, f2, f3⟩ := L2.four.1
                go_wp2_with fail
                all_goals
                  go_ret
                  refine ⟨ret_bool ?_, HB.out.trans (hb2.mono HB.out.size)⟩
                  rw [Bool.eq_iff_iff]
                  simp [headR, ← HCB.out, hn0, hn8]
                  try omega
            · go_wp2_with fail
              all_goals
                refine HCw.out.mono ?_
                rintro e w2 ⟨rfl, hb2⟩
                have L2 := L0.out.below hb2 L0.out.lt
                obtain ⟨f0, f1, f2, f3⟩ := L2.four.1
                go_wp2_with fail
                all_goals
                  go_ret
                  refine ⟨ret_bool ?_, HB.out.trans (hb2.mono HB.out.size)⟩
                  simp [headR]
                  try (intros; omega)
          · go_wp2_with fail
            all_goals
              refine HCw.out.mono ?_
              rintro e w2 ⟨rfl, hb2⟩
              have L2 := L0.out.below hb2 L0.out.lt
              obtain ⟨f0, f1, f2, f3⟩ := L2.four.1
              go_wp2_with fail
              all_goals
                go_ret
                refine ⟨ret_bool ?_, HB.out.trans (hb2.mono HB.out.size)⟩
                simp [headR]
                try (intros; omega)
      · have e6 : (k == 6) = false := by simpa using hk
        have HF : Hid (headR k n s m free true = false) := by
          refine Lib.hid ?_
          simp [headR, hk]
        clear hk HC
        go_wp2_with fail
        all_goals
          go_ret
          exact ⟨ret_bool HF.out.symm, HB.out⟩
end Lx
end Go.Proofs.Ytcgiloccmehbeaa
