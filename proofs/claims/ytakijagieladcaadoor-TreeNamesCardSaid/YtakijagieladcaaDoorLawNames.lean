/-
  Walk of the law TreeNames.
-/
import Derived.Test.YtakijagieladcaaDoorFixT
namespace Go.Proofs.YtakijagieladcaaDoor
open Go.RowKit
namespace Lx
/-- A text with a blank behind it: is its first token the whole text, of that kind? -/
def refTokS (l : List UInt8) (k : Int) : Bool := match tokK (l ++ [32]) with | .ok (kd, _, t) => decide (kd = k) && (t == l) | .error _ => false
theorem run_blank (l : List UInt8) : run ldR (l ++ [32]) = run ldR l := by
  induction l with
  | nil => rfl
  | cons c r ih => simp only [List.cons_append, run, ih]
def vdK (k : Int) (l : List UInt8) (x : Except Int (Int × Int × List UInt8)) : Bool := match x with | .ok (kd, _, t) => decide (kd = k) && (t == l) | .error _ => false
theorem vd_sign (k : Int) (l q : List UInt8) (hk : k = 1 ∨ k = 2) (hq : run ldR q = 0) : vdK k l (tokK q) = false := by
  have e : tokK q = match signOf q with | some g => .ok (5, 0, g) | none => .error 10 := by
    unfold tokK; rw [if_neg (by omega)]; cases signOf q <;> rfl
  rw [e]
  cases signOf q with
  | none => rfl
  | some g => rcases hk with rfl | rfl <;> rfl
theorem ref_vd (k : Int) (l : List UInt8) : refTokV l k = vdK k l (tokK l) := by unfold refTokV vdK; cases tokK l <;> rfl
theorem refS_vd (k : Int) (l : List UInt8) : refTokS l k = vdK k l (tokK (l ++ [32])) := by unfold refTokS vdK; cases tokK (l ++ [32]) <;> rfl
theorem names_eq (l : List UInt8) (k : Int) (hk : k = 1 ∨ k = 2) : refTokS l k = kindV k l := by
  by_cases hl : l = []
  · subst hl
    rcases hk with rfl | rfl <;> rfl
  · rw [← refTok_kind l k hk hl, ref_vd, refS_vd]
    have hle := run_le ldR l
    by_cases h0 : 0 < run ldR l
    · have e : tokK (l ++ [32]) = tokK l := by
        unfold tokK
        rw [run_blank, if_pos h0, if_pos h0, List.take_append_of_le_length hle]
      rw [e]
    · rw [vd_sign k l _ hk (by rw [run_blank]; omega), vd_sign k l _ hk (by omega)]
theorem may_var (s : ByteArray) : mayV (.node 1 s 0 0 []) = kindV 1 s.data.toList := by simp [mayV, Tr.kind, mayT, shapeV, fitsV, whatV, mayL, kindV]
theorem may_con (s : ByteArray) : mayV (.node 6 s 0 0 []) = kindV 2 s.data.toList := by simp [mayV, Tr.kind, mayT, shapeV, fitsV, whatV, mayL, kindV]
theorem may_neg (s : ByteArray) : mayV (.node 9 s (-1) 0 []) = false := by simp [mayV, Tr.kind, mayT, shapeV, fitsV]
theorem may_int (s : ByteArray) : mayV (.node 9 s 0 0 []) = s.toList.isEmpty := by
  rw [str_empty']
  simp [mayV, Tr.kind, mayT, shapeV, fitsV, whatV, mayL]

set_option maxHeartbeats 4000000 in
theorem names_big (s : ByteArray) (w : World) (hg : Signs w) (h : 50 < s.size) : Calls Tryd.prog 8 #[.string s] w fun e w' => e = .returned (.bool true) ∧ Below w.heap.size w w' := by
  have h' : (50 : Int) < (s.size : Int) := by omega
  go_enter Tryd.func8, Tryd.ntmps8
  go_wp2_with fail
  refine (fixT_any _ hg).mono ?_
  rintro e w1 ⟨rfl, hb1⟩
  have hg1 := hg.below hb1 hg.pos
  go_wp2_with fail
  refine (fixT_any _ hg1).mono ?_
  rintro e w2 ⟨rfl, hb2⟩
  go_wp2_with fail
  go_ret
  exact ⟨rfl, hb1.trans (hb2.mono hb1.size)⟩

theorem blank_list (s : ByteArray) : (s ++ (⟨#[32]⟩ : ByteArray)).data.toList = s.data.toList ++ [32] := by
  simp [ByteArray.data_append]
theorem blank_size (s : ByteArray) : (s ++ (⟨#[32]⟩ : ByteArray)).size = s.size + 1 := by
  rw [ByteArray.size_append]; rfl
theorem leafIn (k n : Int) (s : ByteArray) (w : World) (h : s.size ≤ 140737488351232) : TIn w Any (.node k s n 0 []) none := TIn.leaf h
set_option maxHeartbeats 8000000 in
theorem names_small (s : ByteArray) (w : World) (hg : Signs w) (h : ¬ 50 < s.size) : Calls Tryd.prog 8 #[.string s] w fun e w' => e = .returned (.bool true) ∧ Below w.heap.size w w' := by
  have h' : ¬ (50 : Int) < (s.size : Int) := by omega
  have hs7 : s.size ≤ 140737488351232 := by omega
  have HO := fun w1 => Lib.hid (one_both (s ++ (⟨#[32]⟩ : ByteArray)) 0 w1 (by rw [blank_size]; omega) (by rw [blank_size]; omega))
  rw [List.drop_zero, blank_list] at HO
  have HV := fun w1 hg1 => Lib.hid (tmay_any (.node 1 s 0 0 []) none 0 w1 (leafIn _ _ _ _ hs7) hg1)
  have HC := fun w1 hg1 => Lib.hid (tmay_any (.node 6 s 0 0 []) none 0 w1 (leafIn _ _ _ _ hs7) hg1)
  have HN := fun w1 hg1 => Lib.hid (tmay_any (.node 9 s (-1) 0 []) none 0 w1 (leafIn _ _ _ _ hs7) hg1)
  have HI := fun w1 hg1 => Lib.hid (tmay_any (.node 9 s 0 0 []) none 0 w1 (leafIn _ _ _ _ hs7) hg1)
  rw [may_var, ← names_eq _ _ (.inl rfl)] at HV
  rw [may_con, ← names_eq _ _ (.inr rfl)] at HC
  rw [may_neg] at HN
  rw [may_int] at HI
  cases hT : tokK (s.data.toList ++ [32]) with
  | error x =>
    have hx0 : (x == 0) = false := by rcases tokK_err hT with rfl | rfl <;> rfl
    have h1 : refTokS s.data.toList 1 = false := by unfold refTokS; rw [hT]
    have h2 : refTokS s.data.toList 2 = false := by unfold refTokS; rw [hT]
    rw [h1] at HV
    rw [h2] at HC
    have HT := Lib.hid hT
    clear hT h1 h2
    by_cases h0 : s.toList = []
    · have he0 : s.toList.isEmpty = true := by rw [h0]; rfl
      rw [he0] at HI
      go_enter Tryd.func8, Tryd.ntmps8
      go_wp2_with fail
      refine (fixT_any _ hg).mono ?_
      rintro e w1 ⟨rfl, hb1⟩
      have hg1 := hg.below hb1 hg.pos
      go_wp2_with fail
      refine (HO _).out.mono ?_
      rintro e w2 ⟨ho, he, hb2⟩
      obtain rfl := he x HT.out
      have hg2 := hg1.below hb2 hg1.pos
      have hb02 := hb1.trans (hb2.mono hb1.size)
      unfold noTokR
      go_wp2_with fail
      have hg3 := fun o => hg2.below ((Below.refl _ w2).alloc (Nat.le_refl _) o) hg2.pos
      refine (HV _ (hg3 _)).out.mono ?_
      rintro e w4 ⟨rfl, hb4⟩
      have hg4 := (hg3 _).below hb4 (hg3 _).pos
      have hb04 := below_al hb02 hb4
      go_wp2_with fail
      refine (HC _ hg4).out.mono ?_
      rintro e w5 ⟨rfl, hb5⟩
      have hg5 := hg4.below hb5 hg4.pos
      go_wp2_with fail
      refine (HN _ hg5).out.mono ?_
      rintro e w6 ⟨rfl, hb6⟩
      have hg6 := hg5.below hb6 hg5.pos
      go_wp2_with fail
      refine (HI _ hg6).out.mono ?_
      rintro e w7 ⟨rfl, hb7⟩
      go_wp2_with fail
      go_ret
      have hb05 := hb04.trans (hb5.mono hb04.size)
      have hb06 := hb05.trans (hb6.mono hb05.size)
      exact ⟨by first | (simp; done) | (simp; assumption), hb06.trans (hb7.mono hb06.size)⟩
    · have he0 : s.toList.isEmpty = false := by cases e : s.toList with | nil => exact absurd e h0 | cons _ _ => rfl
      rw [he0] at HI
      go_enter Tryd.func8, Tryd.ntmps8
      go_wp2_with fail
      refine (fixT_any _ hg).mono ?_
      rintro e w1 ⟨rfl, hb1⟩
      have hg1 := hg.below hb1 hg.pos
      go_wp2_with fail
      refine (HO _).out.mono ?_
      rintro e w2 ⟨ho, he, hb2⟩
      obtain rfl := he x HT.out
      have hg2 := hg1.below hb2 hg1.pos
      have hb02 := hb1.trans (hb2.mono hb1.size)
      unfold noTokR
      go_wp2_with fail
      have hg3 := fun o => hg2.below ((Below.refl _ w2).alloc (Nat.le_refl _) o) hg2.pos
      refine (HV _ (hg3 _)).out.mono ?_
      rintro e w4 ⟨rfl, hb4⟩
      have hg4 := (hg3 _).below hb4 (hg3 _).pos
      have hb04 := below_al hb02 hb4
      go_wp2_with fail
      refine (HC _ hg4).out.mono ?_
      rintro e w5 ⟨rfl, hb5⟩
      have hg5 := hg4.below hb5 hg4.pos
      go_wp2_with fail
      refine (HN _ hg5).out.mono ?_
      rintro e w6 ⟨rfl, hb6⟩
      have hg6 := hg5.below hb6 hg5.pos
      go_wp2_with fail
      refine (HI _ hg6).out.mono ?_
      rintro e w7 ⟨rfl, hb7⟩
      go_wp2_with fail
      go_ret
      have hb05 := hb04.trans (hb5.mono hb04.size)
      have hb06 := hb05.trans (hb6.mono hb05.size)
      exact ⟨by first | (simp; done) | (simp; assumption), hb06.trans (hb7.mono hb06.size)⟩
  | ok q =>
    obtain ⟨kd, n, t⟩ := q
    have h1 : refTokS s.data.toList 1 = (decide (kd = 1) && (t == s.data.toList)) := by unfold refTokS; rw [hT]
    have h2 : refTokS s.data.toList 2 = (decide (kd = 2) && (t == s.data.toList)) := by unfold refTokS; rw [hT]
    have ht : (t == s.data.toList) = decide ((⟨t.toArray⟩ : ByteArray).toList = s.toList) := by
      rw [data_list, data_list]
      by_cases e : t = s.data.toList <;> simp [e]
    by_cases h0 : s.toList = []
    · have ht0 : s.data.toList = [] := by rw [← data_list]; exact h0
      rw [ht0] at hT
      have e : tokK ([] ++ [32]) = .error 10 := by rfl
      rw [e] at hT
      cases hT
    · have he0 : s.toList.isEmpty = false := by cases e : s.toList with | nil => exact absurd e h0 | cons _ _ => rfl
      rw [he0] at HI
      by_cases hk1 : kd = 1
      · subst hk1
        by_cases htt : (⟨t.toArray⟩ : ByteArray).toList = s.toList
        · rw [h1, ht] at HV
          rw [h2] at HC
          simp only [htt, decide_true, Bool.and_self, Bool.true_and, Int.reduceEq, decide_false, Bool.false_and] at HV HC
          have HT := Lib.hid hT
          clear hT h1 h2 ht
          go_enter Tryd.func8, Tryd.ntmps8
          go_wp2_with fail
          refine (fixT_any _ hg).mono ?_
          rintro e w1 ⟨rfl, hb1⟩
          have hg1 := hg.below hb1 hg.pos
          go_wp2_with fail
          refine (HO _).out.mono ?_
          rintro e w2 ⟨ho, he, hb2⟩
          obtain rfl := ho _ _ _ HT.out
          have hg2 := hg1.below hb2 hg1.pos
          have hb02 := hb1.trans (hb2.mono hb1.size)
          unfold tokR
          go_wp2_with fail
          have hg3 := fun o => hg2.below ((Below.refl _ w2).alloc (Nat.le_refl _) o) hg2.pos
          refine (HV _ (hg3 _)).out.mono ?_
          rintro e w4 ⟨rfl, hb4⟩
          have hg4 := (hg3 _).below hb4 (hg3 _).pos
          have hb04 := below_al hb02 hb4
          go_wp2_with fail
          refine (HC _ hg4).out.mono ?_
          rintro e w5 ⟨rfl, hb5⟩
          have hg5 := hg4.below hb5 hg4.pos
          go_wp2_with fail
          refine (HN _ hg5).out.mono ?_
          rintro e w6 ⟨rfl, hb6⟩
          have hg6 := hg5.below hb6 hg5.pos
          go_wp2_with fail
          refine (HI _ hg6).out.mono ?_
          rintro e w7 ⟨rfl, hb7⟩
          go_wp2_with fail
          go_ret
          have hb05 := hb04.trans (hb5.mono hb04.size)
          have hb06 := hb05.trans (hb6.mono hb05.size)
          exact ⟨by first | (simp; done) | (simp; assumption), hb06.trans (hb7.mono hb06.size)⟩
        · rw [h1, ht] at HV
          rw [h2] at HC
          simp only [htt, decide_true, Bool.and_self, Bool.true_and, Int.reduceEq, decide_false, Bool.false_and] at HV HC
          have HT := Lib.hid hT
          have htt2 : ∀ (h : ¬ (⟨t.toArray⟩ : ByteArray).toList = s.toList), ¬ t = s.toList ∧ ¬ s.toList = t := fun h => by
            have e : (⟨t.toArray⟩ : ByteArray).toList = t := data_list _
            rw [e] at h
            exact ⟨h, fun e' => h e'.symm⟩
          obtain ⟨hn1, hn2⟩ := htt2 htt
          clear htt2
          clear hT h1 h2 ht
          go_enter Tryd.func8, Tryd.ntmps8
          go_wp2_with fail
          refine (fixT_any _ hg).mono ?_
          rintro e w1 ⟨rfl, hb1⟩
          have hg1 := hg.below hb1 hg.pos
          go_wp2_with fail
          refine (HO _).out.mono ?_
          rintro e w2 ⟨ho, he, hb2⟩
          obtain rfl := ho _ _ _ HT.out
          have hg2 := hg1.below hb2 hg1.pos
          have hb02 := hb1.trans (hb2.mono hb1.size)
          unfold tokR
          go_wp2_with fail
          have hg3 := fun o => hg2.below ((Below.refl _ w2).alloc (Nat.le_refl _) o) hg2.pos
          refine (HV _ (hg3 _)).out.mono ?_
          rintro e w4 ⟨rfl, hb4⟩
          have hg4 := (hg3 _).below hb4 (hg3 _).pos
          have hb04 := below_al hb02 hb4
          go_wp2_with fail
          refine (HC _ hg4).out.mono ?_
          rintro e w5 ⟨rfl, hb5⟩
          have hg5 := hg4.below hb5 hg4.pos
          go_wp2_with fail
          refine (HN _ hg5).out.mono ?_
          rintro e w6 ⟨rfl, hb6⟩
          have hg6 := hg5.below hb6 hg5.pos
          go_wp2_with fail
          refine (HI _ hg6).out.mono ?_
          rintro e w7 ⟨rfl, hb7⟩
          go_wp2_with fail
          go_ret
          have hb05 := hb04.trans (hb5.mono hb04.size)
          have hb06 := hb05.trans (hb6.mono hb05.size)
          exact ⟨by first | (simp; done) | (simp; assumption), hb06.trans (hb7.mono hb06.size)⟩
      · by_cases hk2 : kd = 2
        · subst hk2
          by_cases htt : (⟨t.toArray⟩ : ByteArray).toList = s.toList
          · rw [h1] at HV
            rw [h2, ht] at HC
            simp only [htt, decide_true, Bool.and_self, Bool.true_and, Int.reduceEq, decide_false, Bool.false_and] at HV HC
            have HT := Lib.hid hT
            clear hT h1 h2 ht
            go_enter Tryd.func8, Tryd.ntmps8
            go_wp2_with fail
            refine (fixT_any _ hg).mono ?_
            rintro e w1 ⟨rfl, hb1⟩
            have hg1 := hg.below hb1 hg.pos
            go_wp2_with fail
            refine (HO _).out.mono ?_
            rintro e w2 ⟨ho, he, hb2⟩
            obtain rfl := ho _ _ _ HT.out
            have hg2 := hg1.below hb2 hg1.pos
            have hb02 := hb1.trans (hb2.mono hb1.size)
            unfold tokR
            go_wp2_with fail
            have hg3 := fun o => hg2.below ((Below.refl _ w2).alloc (Nat.le_refl _) o) hg2.pos
            refine (HV _ (hg3 _)).out.mono ?_
            rintro e w4 ⟨rfl, hb4⟩
            have hg4 := (hg3 _).below hb4 (hg3 _).pos
            have hb04 := below_al hb02 hb4
            go_wp2_with fail
            refine (HC _ hg4).out.mono ?_
            rintro e w5 ⟨rfl, hb5⟩
            have hg5 := hg4.below hb5 hg4.pos
            go_wp2_with fail
            refine (HN _ hg5).out.mono ?_
            rintro e w6 ⟨rfl, hb6⟩
            have hg6 := hg5.below hb6 hg5.pos
            go_wp2_with fail
            refine (HI _ hg6).out.mono ?_
            rintro e w7 ⟨rfl, hb7⟩
            go_wp2_with fail
            go_ret
            have hb05 := hb04.trans (hb5.mono hb04.size)
            have hb06 := hb05.trans (hb6.mono hb05.size)
            exact ⟨by first | (simp; done) | (simp; assumption), hb06.trans (hb7.mono hb06.size)⟩
          · rw [h1] at HV
            rw [h2, ht] at HC
            simp only [htt, decide_true, Bool.and_self, Bool.true_and, Int.reduceEq, decide_false, Bool.false_and] at HV HC
            have HT := Lib.hid hT
            have htt2 : ∀ (h : ¬ (⟨t.toArray⟩ : ByteArray).toList = s.toList), ¬ t = s.toList ∧ ¬ s.toList = t := fun h => by
              have e : (⟨t.toArray⟩ : ByteArray).toList = t := data_list _
              rw [e] at h
              exact ⟨h, fun e' => h e'.symm⟩
            obtain ⟨hn1, hn2⟩ := htt2 htt
            clear htt2
            clear hT h1 h2 ht
            go_enter Tryd.func8, Tryd.ntmps8
            go_wp2_with fail
            refine (fixT_any _ hg).mono ?_
            rintro e w1 ⟨rfl, hb1⟩
            have hg1 := hg.below hb1 hg.pos
            go_wp2_with fail
            refine (HO _).out.mono ?_
            rintro e w2 ⟨ho, he, hb2⟩
            obtain rfl := ho _ _ _ HT.out
            have hg2 := hg1.below hb2 hg1.pos
            have hb02 := hb1.trans (hb2.mono hb1.size)
            unfold tokR
            go_wp2_with fail
            have hg3 := fun o => hg2.below ((Below.refl _ w2).alloc (Nat.le_refl _) o) hg2.pos
            refine (HV _ (hg3 _)).out.mono ?_
            rintro e w4 ⟨rfl, hb4⟩
            have hg4 := (hg3 _).below hb4 (hg3 _).pos
            have hb04 := below_al hb02 hb4
            go_wp2_with fail
            refine (HC _ hg4).out.mono ?_
            rintro e w5 ⟨rfl, hb5⟩
            have hg5 := hg4.below hb5 hg4.pos
            go_wp2_with fail
            refine (HN _ hg5).out.mono ?_
            rintro e w6 ⟨rfl, hb6⟩
            have hg6 := hg5.below hb6 hg5.pos
            go_wp2_with fail
            refine (HI _ hg6).out.mono ?_
            rintro e w7 ⟨rfl, hb7⟩
            go_wp2_with fail
            go_ret
            have hb05 := hb04.trans (hb5.mono hb04.size)
            have hb06 := hb05.trans (hb6.mono hb05.size)
            exact ⟨by first | (simp; done) | (simp; assumption), hb06.trans (hb7.mono hb06.size)⟩
        · rw [h1] at HV
          rw [h2] at HC
          simp only [hk1, hk2, decide_false, Bool.false_and] at HV HC
          have HT := Lib.hid hT
          clear hT h1 h2 ht
          go_enter Tryd.func8, Tryd.ntmps8
          go_wp2_with fail
          refine (fixT_any _ hg).mono ?_
          rintro e w1 ⟨rfl, hb1⟩
          have hg1 := hg.below hb1 hg.pos
          go_wp2_with fail
          refine (HO _).out.mono ?_
          rintro e w2 ⟨ho, he, hb2⟩
          obtain rfl := ho _ _ _ HT.out
          have hg2 := hg1.below hb2 hg1.pos
          have hb02 := hb1.trans (hb2.mono hb1.size)
          unfold tokR
          go_wp2_with fail
          have hg3 := fun o => hg2.below ((Below.refl _ w2).alloc (Nat.le_refl _) o) hg2.pos
          refine (HV _ (hg3 _)).out.mono ?_
          rintro e w4 ⟨rfl, hb4⟩
          have hg4 := (hg3 _).below hb4 (hg3 _).pos
          have hb04 := below_al hb02 hb4
          go_wp2_with fail
          refine (HC _ hg4).out.mono ?_
          rintro e w5 ⟨rfl, hb5⟩
          have hg5 := hg4.below hb5 hg4.pos
          go_wp2_with fail
          refine (HN _ hg5).out.mono ?_
          rintro e w6 ⟨rfl, hb6⟩
          have hg6 := hg5.below hb6 hg5.pos
          go_wp2_with fail
          refine (HI _ hg6).out.mono ?_
          rintro e w7 ⟨rfl, hb7⟩
          go_wp2_with fail
          go_ret
          have hb05 := hb04.trans (hb5.mono hb04.size)
          have hb06 := hb05.trans (hb6.mono hb05.size)
          exact ⟨by first | (simp; done) | (simp; assumption), hb06.trans (hb7.mono hb06.size)⟩
theorem names_any (s : ByteArray) (w : World) (hg : Signs w) : Calls Tryd.prog 8 #[.string s] w fun e w' => e = .returned (.bool true) ∧ Below w.heap.size w w' := by
  by_cases h : 50 < s.size
  · exact names_big s w hg h
  · exact names_small s w hg h
end Lx
end Go.Proofs.YtakijagieladcaaDoor
