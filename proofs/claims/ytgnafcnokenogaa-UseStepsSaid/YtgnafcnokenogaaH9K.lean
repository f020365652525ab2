/-
  gossamerref09.Step of a closed term.
-/
import Derived.Test.YtgnafcnokenogaaC17
import Derived.Test.YtgnafcnokenogaaC10
import Derived.Test.YtgnafcnokenogaaC7
namespace Go.Proofs.Ytgnafcnokenogaa
open Go.RowKit
namespace Lx
set_option maxRecDepth 100000
theorem may_all {t : Te} (h : mayQ t 0 false = true) (u : Int) (hu : 0 ≤ u) : mayQ t u false = true := by
  have h1 := may_up (f := 0) (u := u) (by omega) hu h
  rw [up_far (may_cl t 0 false h) u 0 (by omega), Int.zero_add] at h1
  exact h1
set_option maxHeartbeats 8000000 in
theorem rStep_any (t : Te) (A : Option Addr) (c0 : Nat) (w : World) (hI : EIn w Any t A) (hm : mayQ t 0 false = true) (hf : FineR t) :
    Calls Try.prog 9 #[ev t A c0] w (GivesN Any (stepE t).1 (stepE t).2 w) := by
  have HM : Hid (∀ X, Below w.heap.size w X → Calls Try.prog 7 #[ev t A c0, .int .i64 4611686018427387904] X fun e w' => e = .returned (.bool true) ∧ Below X.heap.size X w') := Lib.hid fun X hX => by
    have h := rMay6_any t A c0 4611686018427387904 X (EIn.below _ hI hX (Nat.le_refl _)) hf.1 (by omega) (by omega)
    rw [may_all hm _ (by omega)] at h
    exact h
  have HP : Hid (∀ X, Below w.heap.size w X → Calls Try.prog 22 #[ev t A c0] X (GivesN (fun b => Any b ∧ b < w.heap.size) (stepE t).1 (stepE t).2 X)) := Lib.hid fun X hX => rstep_any (depthE t) (fun b => Any b ∧ b < w.heap.size) t A c0 X 0 (Nat.le_refl _) (EIn.below _ (EIn.narrow _ hI) hX (Nat.le_refl _)) hm hf
  obtain ⟨U, hU⟩ : ∃ U, U = (stepE t).1 := ⟨_, rfl⟩
  obtain ⟨x, hxx⟩ : ∃ x, x = (stepE t).2 := ⟨_, rfl⟩
  rw [← hU, ← hxx] at HP
  rw [← hU, ← hxx]
  clear hU hxx hm hf hI
  obtain ⟨uk, un, us, ul⟩ := U
  obtain ⟨tk, tn, ts, tl⟩ := t
  simp only [ev, Te.kind, Te.n, Te.name, Te.parts] at HM HP ⊢
  generalize capF tl.length c0 = ct at *
  generalize tl.length = mt at *
  have hb0 : Below w.heap.size w ((w.alloc (.cells #[.int .i64 tk, .int .i64 tn, .string ts, .slice A mt ct] 24)).alloc (.cells #[.int .i64 0, .int .i64 0, .string ⟨#[]⟩, .slice none 0 0] 24)) := below2_new _ _
  have lt : Lies ((w.alloc (.cells #[.int .i64 tk, .int .i64 tn, .string ts, .slice A mt ct] 24)).alloc (.cells #[.int .i64 0, .int .i64 0, .string ⟨#[]⟩, .slice none 0 0] 24)) w.heap.size 24 #[.int .i64 tk, .int .i64 tn, .string ts, .slice A mt ct] := (Lies.new w _ _).old _
  have lz : Lies ((w.alloc (.cells #[.int .i64 tk, .int .i64 tn, .string ts, .slice A mt ct] 24)).alloc (.cells #[.int .i64 0, .int .i64 0, .string ⟨#[]⟩, .slice none 0 0] 24)) (w.heap.size + 1) 24 #[.int .i64 0, .int .i64 0, .string ⟨#[]⟩, .slice none 0 0] := by simpa using Lies.new (w.alloc (.cells #[.int .i64 tk, .int .i64 tn, .string ts, .slice A mt ct] 24)) 24 #[.int .i64 0, .int .i64 0, .string ⟨#[]⟩, .slice none 0 0]
  go_enter Try.func9, Try.ntmps9
  go_upto_region 1 with fail
  generalize ((w.alloc (.cells #[.int .i64 tk, .int .i64 tn, .string ts, .slice A mt ct] 24)).alloc (.cells #[.int .i64 0, .int .i64 0, .string ⟨#[]⟩, .slice none 0 0] 24)) = W0 at *
  obtain ⟨⟨y0, y1, y2, y3⟩, _⟩ := lt.four
  go_wp2_with fail
  refine (HM.out _ hb0).mono ?_
  rintro e w2 ⟨rfl, hb2⟩
  have lt2 := lt.below hb2 lt.lt
  have lz2 := lz.below hb2 lz.lt
  have hbw := hb0.trans (hb2.mono hb0.size)
  clear y0 y1 y2 y3 lt lz hb0 hb2 HM
  obtain ⟨⟨y0, y1, y2, y3⟩, _⟩ := lt2.four
  go_wp2_with fail
  refine (HP.out _ hbw).mono ?_
  rintro e w3 ⟨A2, c2, rfl, hT, hb3⟩
  simp only [ev, Te.kind, Te.n, Te.name, Te.parts]
  have lz3 := lz2.below hb3 lz2.lt
  have hbw3 := hbw.trans (hb3.mono hbw.size)
  obtain ⟨⟨x0, x1, x2, x3⟩, f0, f1, f2, f3⟩ := lz3.four
  have HT := Lib.hid hT
  have HW := Lib.hid hbw3
  clear hT hb3 hbw3 HP
  go_wp2_with fail
  refine bodyPost_ret (res_term2 (p := 2) (q := 3) Try.results9 rfl (lz3.all _ _ _ _)) rfl ?_
  exact gives_allN HT.out (by omega) lz2.lt HW.out _ _ _ _
end Lx
end Go.Proofs.Ytgnafcnokenogaa
