/-
  Walk of the law LexTells.
-/
import Derived.Test.YtnljlocogfacfaaDoorRefAll
import Derived.Test.YtnljlocogfacfaaDoorRefText
import Derived.Test.YtnljlocogfacfaaDoorAllRow
import Derived.Test.YtnljlocogfacfaaDoorFixed
namespace Go.Proofs.YtnljlocogfacfaaDoor
open Go.RowKit
namespace Lx
set_option maxRecDepth 100000
theorem toks_few {l : List UInt8} {ts : List Tok} (h : allK l = .ok ts) (hl : l.length ≤ 2000) : ts.length ≤ 60000 := by
  have h1 := textS_len ts (scan_all_good _ _ _ _ h)
  have h2 := textS_bound _ _ _ _ h
  rw [List.length_drop] at h2
  omega
theorem Row.nil (w : World) : Row w none [] := fun h => absurd rfl h
set_option maxHeartbeats 4000000 in
theorem tells_exit (s : ByteArray) (A : Option Addr) (n c : Nat) (w : World) (hg : Signs w) (h : 2000 < s.size ∨ (¬ 2000 < s.size ∧ 500 < n)) :
    Calls Tryd.prog 3 #[.string s, .slice A n c] w fun e w' => e = .returned (.bool true) ∧ Below w.heap.size w w' := by
  rcases h with h | ⟨h, h2⟩
  · have h' : (2000 : Int) < (s.size : Int) := by omega
    go_enter Tryd.func3, Tryd.ntmps3
    go_wp2_with fail
    refine (fixed_any _ hg).mono ?_
    rintro e w1 ⟨rfl, hb1⟩
    go_wp2_with fail
    go_ret
    exact ⟨rfl, hb1⟩
  · have h' : ¬ (2000 : Int) < (s.size : Int) := by omega
    have h2' : (500 : Int) < (n : Int) := by omega
    go_enter Tryd.func3, Tryd.ntmps3
    go_wp2_with fail
    refine (fixed_any _ hg).mono ?_
    rintro e w1 ⟨rfl, hb1⟩
    go_wp2_with fail
    go_ret
    exact ⟨rfl, hb1⟩
set_option maxHeartbeats 8000000 in
theorem ltells_any (s : ByteArray) (A : Option Addr) (a : List Tok) (n c : Nat) (hn : n = a.length) (w : World) (ha : Row w A a) (ht : (textS a).length ≤ 100000000) (hg : Signs w) :
    Calls Tryd.prog 3 #[.string s, .slice A n c] w fun e w' => e = .returned (.bool true) ∧ Below w.heap.size w w' := by
  by_cases h1 : 2000 < s.size
  · exact tells_exit s A n c w hg (.inl h1)
  by_cases h2 : 500 < n
  · exact tells_exit s A n c w hg (.inr ⟨h1, h2⟩)
  have h1' : ¬ (2000 : Int) < (s.size : Int) := by omega
  have h2' : ¬ (500 : Int) < (n : Int) := by omega
  have hl0 := Lib.size_eq s
  have HRA := fun w => Lib.hid (rall_any s w (by omega))
  have HTX := fun w (ha : Row w A a) => Lib.hid (text_any A a n c hn w ha (by omega) ht)
  have HRT := fun w (ha : Row w A a) => Lib.hid (rtext_any A a n c hn w ha (by omega) ht)
  have HA := Lib.hid ha
  clear hn ha
  obtain ⟨tx, htx⟩ : ∃ tx : ByteArray, tx = ⟨(textS a).toArray⟩ := ⟨_, rfl⟩
  rw [← htx] at HTX HRT
  clear htx ht
  cases hk : allK s.data.toList with
  | error r =>
    obtain ⟨p, x⟩ := r
    have HAL := fun w (hg : Signs w) => Lib.hid (all_bad s p x w (by omega) hg hk)
    have HK := Lib.hid hk
    clear hk hl0
    go_enter Tryd.func3, Tryd.ntmps3
    go_wp2_with fail
    refine (HAL _ hg).out.mono ?_
    rintro e w1 ⟨rfl, hb1⟩
    go_wp2_with fail
    refine (HRA _).out.mono ?_
    rintro e w2 ⟨_, he, hb2⟩
    obtain rfl := he p x HK.out
    have hb02 := hb1.trans (hb2.mono hb1.size)
    go_wp2_with fail
    refine (fixed_any _ (hg.below hb02 hg.pos)).mono ?_
    rintro e w3 ⟨rfl, hb3⟩
    have hb03 := hb02.trans (hb3.mono hb02.size)
    go_wp2_with fail
    refine (same_any none none [] [] 0 0 0 0 rfl rfl w3 (Row.nil w3) (Row.nil w3) (by omega) (by omega)).mono ?_
    rintro e w4 ⟨rfl, q, rfl⟩
    have hb04 := below_drewN hb03 q
    rw [show decide (([] : List Tok) = []) = true from rfl]
    go_wp2_with fail
    refine (HTX _ (HA.out.below hb04 (Nat.le_refl _))).out.mono ?_
    rintro e w5 ⟨rfl, hb5⟩
    have hb05 := hb04.trans (hb5.mono hb04.size)
    go_wp2_with fail
    refine (HRT _ (HA.out.below hb05 (Nat.le_refl _))).out.mono ?_
    rintro e w6 ⟨rfl, rfl⟩
    go_wp2_with fail
    refine (word_any s _).mono ?_
    rintro e w6 ⟨rfl, rfl⟩
    go_wp2_with fail
    refine (rword_any s _).mono ?_
    rintro e w6 ⟨rfl, rfl⟩
    go_wp2_with fail
    go_ret
    exact ⟨by simp, hb05⟩
  | ok ts =>
    obtain ⟨m, hm⟩ : ∃ m, ts.length = m := ⟨_, rfl⟩
    have hfew := toks_few hk (by omega)
    rw [hm] at hfew
    have HAL := fun w (hg : Signs w) => Lib.hid (all_good' s ts m hm w (by omega) hg hk)
    have HSM := fun A B c d w (ha : Row w A ts) (hb : Row w B ts) => Lib.hid (same_any A B ts ts m m c d hm.symm hm.symm w ha hb hfew hfew)
    have HK := Lib.hid hk
    have HM := Lib.hid hm
    clear hk hl0 hm
    go_enter Tryd.func3, Tryd.ntmps3
    go_wp2_with fail
    refine (HAL _ hg).out.mono ?_
    rintro e w1 ⟨A1, c1, rfl, hr1, hb1⟩
    go_wp2_with fail
    refine (HRA _).out.mono ?_
    rintro e w2 ⟨he, _, hb2⟩
    obtain ⟨A2, c2, rfl, hr2⟩ := he ts HK.out
    rw [HM.out]
    have hr1 := hr1.below hb2 (Nat.le_refl _)
    have hb02 := hb1.trans (hb2.mono hb1.size)
    go_wp2_with fail
    refine (fixed_any _ (hg.below hb02 hg.pos)).mono ?_
    rintro e w3 ⟨rfl, hb3⟩
    have hb03 := hb02.trans (hb3.mono hb02.size)
    go_wp2_with fail
    refine (HSM _ _ _ _ w3 (hr1.below hb3 (Nat.le_refl _)) (hr2.below hb3 (Nat.le_refl _))).out.mono ?_
    rintro e w4 ⟨rfl, q, rfl⟩
    have hb04 := below_drewN hb03 q
    simp only [decide_true]
    go_wp2_with fail
    refine (HTX _ (HA.out.below hb04 (Nat.le_refl _))).out.mono ?_
    rintro e w5 ⟨rfl, hb5⟩
    have hb05 := hb04.trans (hb5.mono hb04.size)
    go_wp2_with fail
    refine (HRT _ (HA.out.below hb05 (Nat.le_refl _))).out.mono ?_
    rintro e w6 ⟨rfl, rfl⟩
    go_wp2_with fail
    refine (word_any s _).mono ?_
    rintro e w6 ⟨rfl, rfl⟩
    go_wp2_with fail
    refine (rword_any s _).mono ?_
    rintro e w6 ⟨rfl, rfl⟩
    go_wp2_with fail
    go_ret
    exact ⟨by simp, hb05⟩
end Lx
end Go.Proofs.YtnljlocogfacfaaDoor
