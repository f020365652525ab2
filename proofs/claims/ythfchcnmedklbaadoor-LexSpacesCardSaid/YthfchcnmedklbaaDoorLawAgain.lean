/-
  Walk of the law LexAgain.
-/
import Derived.Test.YthfchcnmedklbaaDoorFixed
namespace Go.Proofs.YthfchcnmedklbaaDoor
open Go.RowKit
namespace Lx
theorem noPlace_eq : ∀ (us ts : List Tok), us.map (fun t => (t.kind, t.text, t.n)) = ts.map (fun t => (t.kind, t.text, t.n)) → us.map noPlace = ts.map noPlace
  | [], [], _ => rfl
  | [], _ :: _, h => by simp at h
  | _ :: _, [], h => by simp at h
  | a :: r, b :: q, h => by
    simp only [List.map_cons, List.cons.injEq, Prod.mk.injEq] at h
    have := noPlace_eq r q h.2
    simp [noPlace, h.1, this]
theorem all_row (s : ByteArray) (ts : List Tok) (n : Nat) (hn : ts.length = n) (w : World) (hs : s.size ≤ 60000) (hg : Signs w) (h : allK s.data.toList = .ok ts) :
    Calls Tryd.prog 10 #[.string s] w fun e w' => ∃ A c, e = .returned (.tuple #[.slice A n c, .int .i64 0, .int .i64 0]) ∧ Row w' A ts ∧ Below w.heap.size w w' := all_good' s ts n hn w hs hg h
theorem place_row (A : Option Addr) (a : List Tok) (n c : Nat) (hn : n = a.length) (w : World) (ha : Row w A a) (hs : n ≤ 60000) :
    Calls Tryd.prog 17 #[.slice A n c] w fun e w' => ∃ A' c', e = .returned (.slice A' n c') ∧ Row w' A' (a.map noPlace) ∧ Below w.heap.size w w' := by
  refine (placeless_any A a n c hn w ha hs).mono ?_
  rintro e w' ⟨A', c', rfl, hown, hb⟩
  exact ⟨A', c', rfl, Row.of_own hown, hb⟩

set_option maxHeartbeats 2000000 in
theorem again_big (s : ByteArray) (w : World) (hg : Signs w) (h : 2000 < s.size) :
    Calls Tryd.prog 4 #[.string s] w fun e w' => e = .returned (.bool true) ∧ Below w.heap.size w w' := by
  have hpos := hg.pos
  go_enter Tryd.func4, Tryd.ntmps4
  go_wp2_with fail
  refine (fixed_any _ hg).mono ?_
  rintro e w1 ⟨rfl, hb1⟩
  have hg1 := hg.below hb1 hpos
  go_wp2_with fail
  refine (fixed_any _ hg1).mono ?_
  rintro e w2 ⟨rfl, hb2⟩
  go_wp2_with fail
  go_ret
  exact ⟨rfl, hb1.trans (hb2.mono hb1.size)⟩

set_option maxHeartbeats 2000000 in
theorem again_bad (s : ByteArray) (w : World) (hg : Signs w) (h : s.size ≤ 2000) (p x : Int) (hx : (x == 0) = false) (hk : allK s.data.toList = .error (p, x)) :
    Calls Tryd.prog 4 #[.string s] w fun e w' => e = .returned (.bool true) ∧ Below w.heap.size w w' := by
  have hpos := hg.pos
  have hx2 : (x != 0) = true := by simp [bne, hx]
  go_enter Tryd.func4, Tryd.ntmps4
  go_wp2_with fail
  refine (fixed_any _ hg).mono ?_
  rintro e w1 ⟨rfl, hb1⟩
  have hg1 := hg.below hb1 hpos
  go_wp2_with fail
  refine (all_bad s p x _ (by omega) hg1 hk).mono ?_
  rintro e w2 ⟨rfl, hb2⟩
  go_wp2_with fail
  go_ret
  exact ⟨rfl, hb1.trans (hb2.mono hb1.size)⟩

set_option maxHeartbeats 4000000 in
theorem again_ok (s : ByteArray) (w : World) (hg : Signs w) (h : s.size ≤ 2000) (ts : List Tok) (hk : allK s.data.toList = .ok ts) :
    Calls Tryd.prog 4 #[.string s] w fun e w' => e = .returned (.bool true) ∧ Below w.heap.size w w' := by
  have hpos := hg.pos
  obtain ⟨us, hu, hm⟩ := allK_again hk
  have hbd := textS_bound _ _ _ _ hk
  have hdl := run_le blkR s.data.toList
  rw [List.length_drop, ← Lib.size_eq] at hbd
  have htl : (⟨(textS ts).toArray⟩ : ByteArray).size ≤ 60000 := by
    rw [Lib.size_eq]; show (textS ts).length ≤ 60000; omega
  have htl2 : (textS ts).length ≤ 100000000 := by omega
  have HP := Lib.hid (noPlace_eq us ts hm)
  have HT := Lib.hid (textS_eq us ts hm)
  obtain ⟨n, hn⟩ : ∃ n, ts.length = n := ⟨_, rfl⟩
  have hun : us.length = n := by
    have := congrArg List.length hm
    simpa [hn] using this
  have hn2 : n ≤ 60000 := by
    have := textS_len ts (scan_all_good _ _ _ _ hk)
    omega
  have HN := Lib.hid hn
  have HU := Lib.hid hun
  have HK := Lib.hid hk
  have HK2 := Lib.hid hu
  clear hk hu hm hbd hdl hn hun
  go_enter Tryd.func4, Tryd.ntmps4
  go_wp2_with fail
  refine (fixed_any _ hg).mono ?_
  rintro e w1 ⟨rfl, hb1⟩
  have hg1 := hg.below hb1 hpos
  have hs1 := hb1.size
  go_wp2_with fail
  refine (all_row s ts n HN.out _ (by omega) hg1 HK.out).mono ?_
  rintro e w2 ⟨A2, c2, rfl, hr2, hb2⟩
  have hg2 := hg1.below hb2 (by omega)
  have hB2 := hb1.trans (hb2.mono hs1)
  have hs2 := hb2.size
  clear hg hg1 hb1 hb2
  go_wp2_with fail
  refine (text_any A2 ts n c2 HN.out.symm _ hr2 hn2 htl2).mono ?_
  rintro e w3 ⟨rfl, hb3⟩
  have hg3 := hg2.below hb3 (by omega)
  have hB3 := hB2.trans (hb3.mono (by omega))
  have hr3 := hr2.below hb3 (Nat.le_refl _)
  have hs3 := hb3.size
  clear hg2 hB2 hr2 hb3
  go_wp2_with fail
  refine (all_row ⟨(textS ts).toArray⟩ us n HU.out _ htl hg3 HK2.out).mono ?_
  rintro e w4 ⟨A4, c4, rfl, hr4, hb4⟩
  have hB4 := hB3.trans (hb4.mono (by omega))
  have hr3' := hr3.below hb4 (Nat.le_refl _)
  have hs4 := hb4.size
  clear hg3 hB3 hr3 hb4 htl
  go_wp2_with fail
  refine (place_row A2 ts n c2 HN.out.symm _ hr3' hn2).mono ?_
  rintro e w5 ⟨A5, c5, rfl, hr5, hb5⟩
  have hB5 := hB4.trans (hb5.mono (by omega))
  have hr4' := hr4.below hb5 (Nat.le_refl _)
  have hs5 := hb5.size
  clear hB4 hr4 hb5 hr3'
  go_wp2_with fail
  refine (place_row A4 us n c4 HU.out.symm _ hr4' hn2).mono ?_
  rintro e w6 ⟨A6, c6, rfl, hr6, hb6⟩
  have hB6 := hB5.trans (hb6.mono (by omega))
  have hr5' := hr5.below hb6 (Nat.le_refl _)
  have hr4 := hr4'.below hb6 (Nat.le_refl _)
  have hs6 := hb6.size
  rw [HP.out] at hr6
  clear hB5 hr5 hb6 hr4'
  go_wp2_with fail
  refine (same_self A5 A6 (ts.map noPlace) n c5 c6 (by simpa using HN.out) _ hr5' hr6 hn2).mono ?_
  rintro e w7 ⟨rfl, k, rfl⟩
  have hr4k : Row (w6.drewN k) A4 us := hr4
  go_wp2_with fail
  refine (text_any A4 us n c4 HU.out.symm _ hr4k hn2 (by rw [HT.out]; exact htl2)).mono ?_
  rintro e w8 ⟨rfl, hb8⟩
  have hB8 := (below_drewN hB6 k).trans (hb8.mono (by simp; omega))
  rw [HT.out]
  clear hb8 hr4k hr4
  go_wp2_with fail
  go_ret
  exact ⟨rfl, hB8⟩

theorem lawAgain_any (s : ByteArray) (w : World) (hg : Signs w) : Calls Tryd.prog 4 #[.string s] w fun e w' => e = .returned (.bool true) ∧ Below w.heap.size w w' := by
  by_cases h : 2000 < s.size
  · exact again_big s w hg h
  · cases hk : allK s.data.toList with
    | ok ts => exact again_ok s w hg (by omega) ts hk
    | error px =>
      obtain ⟨p, x⟩ := px
      have hx := err_code hk
      exact again_bad s w hg (by omega) p x (by rcases hx with rfl | rfl <;> rfl) hk
end Lx
end Go.Proofs.YthfchcnmedklbaaDoor
