/-
  Texts that lie one behind the other: HdI HdK MayE0 Unlike MayEp MayEq.
-/
import Derived.Test.YtiocmiikghcoaaaGreatDoorC15
import Derived.Test.YtiocmiikghcoaaaGreatDoorC7
import Derived.Test.YtiocmiikghcoaaaGreatDoorC1
import Derived.Test.YtiocmiikghcoaaaGreatDoorC3
import Derived.Test.YtiocmiikghcoaaaGreatDoorC12
import Derived.Test.YtiocmiikghcoaaaGreatDoorC6
import Derived.Deep.RegionHeld3
import Derived.Deep.DrawnRows
namespace Go.Proofs.YtiocmiikghcoaaaGreatDoor
open Go.RowKit
namespace Lx
set_option maxRecDepth 100000
set_option maxHeartbeats 8000000 in
theorem reckon_any (s : ByteArray) (a b : Te) (Aa Ab : Option Addr) (ca cb : Nat) (w : World) (hA : EIn w Any a Aa) (hB : EIn w Any b Ab) :
  Calls Tryz.prog 40 #[.string s, ev a Aa ca, ev b Ab cb] w (GivesS (reckonE s a b).1 (reckonE s a b).2 w) := by
 obtain ⟨ak, an, as_, al⟩ := a
 obtain ⟨bk, bn, bs, bl⟩ := b
 have hA0 : -9223372036854775808 ≤ an := by rw [EIn] at hA; exact hA.1.2.1
 have hA1 : an ≤ 9223372036854775807 := by rw [EIn] at hA; exact hA.1.2.2
 have hB0 : -9223372036854775808 ≤ bn := by rw [EIn] at hB; exact hB.1.2.1
 have hB1 : bn ≤ 9223372036854775807 := by rw [EIn] at hB; exact hB.1.2.2
 have hb0 : Below w.heap.size w (((w.alloc (.cells #[.int .i64 ak, .int .i64 an, .string as_, .slice Aa al.length (capF al.length ca)] 24)).alloc (.cells #[.int .i64 bk, .int .i64 bn, .string bs, .slice Ab bl.length (capF bl.length cb)] 24)).alloc (.cells #[.int .i64 0, .int .i64 0, .string ⟨#[]⟩, .slice none 0 0] 24)) := (((Below.refl _ w).alloc (Nat.le_refl _) _).alloc (by simp) _).alloc (by simp; omega) _
 have la : Lies (((w.alloc (.cells #[.int .i64 ak, .int .i64 an, .string as_, .slice Aa al.length (capF al.length ca)] 24)).alloc (.cells #[.int .i64 bk, .int .i64 bn, .string bs, .slice Ab bl.length (capF bl.length cb)] 24)).alloc (.cells #[.int .i64 0, .int .i64 0, .string ⟨#[]⟩, .slice none 0 0] 24)) w.heap.size 24 #[.int .i64 ak, .int .i64 an, .string as_, .slice Aa al.length (capF al.length ca)] := ((Lies.new w _ _).old _).old _
 have lb : Lies (((w.alloc (.cells #[.int .i64 ak, .int .i64 an, .string as_, .slice Aa al.length (capF al.length ca)] 24)).alloc (.cells #[.int .i64 bk, .int .i64 bn, .string bs, .slice Ab bl.length (capF bl.length cb)] 24)).alloc (.cells #[.int .i64 0, .int .i64 0, .string ⟨#[]⟩, .slice none 0 0] 24)) (w.heap.size + 1) 24 #[.int .i64 bk, .int .i64 bn, .string bs, .slice Ab bl.length (capF bl.length cb)] := by
  refine Lies.old ?_ _; simpa using Lies.new (w.alloc (.cells #[.int .i64 ak, .int .i64 an, .string as_, .slice Aa al.length (capF al.length ca)] 24)) 24 #[.int .i64 bk, .int .i64 bn, .string bs, .slice Ab bl.length (capF bl.length cb)]
 have lz : Lies (((w.alloc (.cells #[.int .i64 ak, .int .i64 an, .string as_, .slice Aa al.length (capF al.length ca)] 24)).alloc (.cells #[.int .i64 bk, .int .i64 bn, .string bs, .slice Ab bl.length (capF bl.length cb)] 24)).alloc (.cells #[.int .i64 0, .int .i64 0, .string ⟨#[]⟩, .slice none 0 0] 24)) (w.heap.size + 1 + 1) 24 #[.int .i64 0, .int .i64 0, .string ⟨#[]⟩, .slice none 0 0] := by simpa using Lies.new ((w.alloc (.cells #[.int .i64 ak, .int .i64 an, .string as_, .slice Aa al.length (capF al.length ca)] 24)).alloc (.cells #[.int .i64 bk, .int .i64 bn, .string bs, .slice Ab bl.length (capF bl.length cb)] 24)) 24 #[.int .i64 0, .int .i64 0, .string ⟨#[]⟩, .slice none 0 0]
 show Calls Tryz.prog 40 #[.string s, .agg #[.int .i64 ak, .int .i64 an, .string as_, .slice Aa al.length (capF al.length ca)], .agg #[.int .i64 bk, .int .i64 bn, .string bs, .slice Ab bl.length (capF bl.length cb)]] w _
 by_cases h7 : ak = 7
 ·by_cases h8 : bk = 7
  ·by_cases hs : s = ⟨#[47]⟩
   ·by_cases hn : bn = 0
    ·have HE : Hid (reckonE s (.node ak an as_ al) (.node bk bn bs bl) = (failE, 4)) := Lib.hid (by rw [reckonE]; exact if_neg (fun h => h.2.2 ⟨hs, hn⟩))
     have en : (bn == 0) = true := by simpa using hn
     subst hs h7 h8
     clear hA hB hn
     go_enter Tryz.func40, Tryz.ntmps40
     go_upto_region 1 with fail
     generalize (((w.alloc (.cells #[.int .i64 7, .int .i64 an, .string as_, .slice Aa al.length (capF al.length ca)] 24)).alloc (.cells #[.int .i64 7, .int .i64 bn, .string bs, .slice Ab bl.length (capF bl.length cb)] 24)).alloc (.cells #[.int .i64 0, .int .i64 0, .string ⟨#[]⟩, .slice none 0 0] 24)) = W0 at *
     obtain ⟨⟨y0, y1, _, _⟩, _⟩ := la.four
     obtain ⟨⟨y4, y5, _, _⟩, _⟩ := lb.four
     have HC := Lib.hid (failH_any W0)
     obtain ⟨U, hU⟩ : ∃ U, U = failE := ⟨_, rfl⟩
     rw [← hU] at HC HE
     clear hU
     obtain ⟨uk, un, us, ul⟩ := U
     go_wp2_with fail
     refine HC.out.mono ?_
     rintro e w2 ⟨A2, c2, rfl, hT, hb2⟩
     simp only [ev, Te.kind, Te.n, Te.name, Te.parts]
     have lz2 := lz.below hb2 lz.lt
     have hbw := hb0.trans (hb2.mono hb0.size)
     obtain ⟨⟨x0, x1, x2, x3⟩, g0, g1, g2, g3⟩ := lz2.four
     have HT := Lib.hid hT
     have HW := Lib.hid hbw
     clear hT hb2 hbw HC
     go_wp2_with fail
     refine bodyPost_ret (res_term2 (p := 6) (q := 7) Tryz.results40 rfl (lz2.all _ _ _ _)) rfl ?_
     rw [HE.out]
     exact gives_allS HT.out (by omega) lz.lt HW.out _ _ _ _
    ·have HDV : Hid (s = ⟨#[47]⟩ → bn ≠ 0) := Lib.hid (fun _ => hn)
     have HE : Hid (reckonE s (.node ak an as_ al) (.node bk bn bs bl) = (opE s an bn, 3)) := Lib.hid (by rw [reckonE]; exact if_pos ⟨h7, h8, fun h => hn h.2⟩)
     have en : (bn == 0) = false := by simpa using hn
     subst hs h7 h8
     clear hA hB hn
     go_enter Tryz.func40, Tryz.ntmps40
     go_upto_region 1 with fail
     generalize (((w.alloc (.cells #[.int .i64 7, .int .i64 an, .string as_, .slice Aa al.length (capF al.length ca)] 24)).alloc (.cells #[.int .i64 7, .int .i64 bn, .string bs, .slice Ab bl.length (capF bl.length cb)] 24)).alloc (.cells #[.int .i64 0, .int .i64 0, .string ⟨#[]⟩, .slice none 0 0] 24)) = W0 at *
     obtain ⟨⟨y0, y1, _, _⟩, _⟩ := la.four
     obtain ⟨⟨y4, y5, _, _⟩, _⟩ := lb.four
     have HC := Lib.hid (result_any ⟨#[47]⟩ an bn W0 hA0 hA1 hB0 hB1 HDV.out)
     obtain ⟨U, hU⟩ : ∃ U, U = opE ⟨#[47]⟩ an bn := ⟨_, rfl⟩
     rw [← hU] at HC HE
     clear hU HDV
     obtain ⟨uk, un, us, ul⟩ := U
     go_wp2_with fail
     refine HC.out.mono ?_
     rintro e w2 ⟨A2, c2, rfl, hT, hb2⟩
     simp only [ev, Te.kind, Te.n, Te.name, Te.parts]
     have lz2 := lz.below hb2 lz.lt
     have hbw := hb0.trans (hb2.mono hb0.size)
     obtain ⟨⟨x0, x1, x2, x3⟩, g0, g1, g2, g3⟩ := lz2.four
     have HT := Lib.hid hT
     have HW := Lib.hid hbw
     clear hT hb2 hbw HC
     go_wp2_with fail
     refine bodyPost_ret (res_term2 (p := 6) (q := 7) Tryz.results40 rfl (lz2.all _ _ _ _)) rfl ?_
     rw [HE.out]
     exact gives_allS HT.out (by omega) lz.lt HW.out _ _ _ _
   ·have HDV : Hid (s = ⟨#[47]⟩ → bn ≠ 0) := Lib.hid (fun h => absurd h hs)
    have HE : Hid (reckonE s (.node ak an as_ al) (.node bk bn bs bl) = (opE s an bn, 3)) := Lib.hid (by rw [reckonE]; exact if_pos ⟨h7, h8, fun h => hs h.1⟩)
    have es : (s.toList == [47]) = false := by show (s.toList == (⟨#[47]⟩ : ByteArray).data.toList) = false; rw [← data_list, strE_q, decide_eq_false hs]
    subst h7 h8
    clear hA hB hs
    go_enter Tryz.func40, Tryz.ntmps40
    go_upto_region 1 with fail
    generalize (((w.alloc (.cells #[.int .i64 7, .int .i64 an, .string as_, .slice Aa al.length (capF al.length ca)] 24)).alloc (.cells #[.int .i64 7, .int .i64 bn, .string bs, .slice Ab bl.length (capF bl.length cb)] 24)).alloc (.cells #[.int .i64 0, .int .i64 0, .string ⟨#[]⟩, .slice none 0 0] 24)) = W0 at *
    obtain ⟨⟨y0, y1, _, _⟩, _⟩ := la.four
    obtain ⟨⟨y4, y5, _, _⟩, _⟩ := lb.four
    have HC := Lib.hid (result_any s an bn W0 hA0 hA1 hB0 hB1 HDV.out)
    obtain ⟨U, hU⟩ : ∃ U, U = opE s an bn := ⟨_, rfl⟩
    rw [← hU] at HC HE
    clear hU HDV
    obtain ⟨uk, un, us, ul⟩ := U
    go_wp2_with fail
    refine HC.out.mono ?_
    rintro e w2 ⟨A2, c2, rfl, hT, hb2⟩
    simp only [ev, Te.kind, Te.n, Te.name, Te.parts]
    have lz2 := lz.below hb2 lz.lt
    have hbw := hb0.trans (hb2.mono hb0.size)
    obtain ⟨⟨x0, x1, x2, x3⟩, g0, g1, g2, g3⟩ := lz2.four
    have HT := Lib.hid hT
    have HW := Lib.hid hbw
    clear hT hb2 hbw HC
    go_wp2_with fail
    refine bodyPost_ret (res_term2 (p := 6) (q := 7) Tryz.results40 rfl (lz2.all _ _ _ _)) rfl ?_
    rw [HE.out]
    exact gives_allS HT.out (by omega) lz.lt HW.out _ _ _ _
  ·have HE : Hid (reckonE s (.node ak an as_ al) (.node bk bn bs bl) = (failE, 4)) := Lib.hid (by rw [reckonE]; exact if_neg (fun h => h8 h.2.1))
   have e8 : (bk == 7) = false := by simpa using h8
   have e8' : (bk != 7) = true := by simpa using h8
   subst h7
   clear hA hB h8
   go_enter Tryz.func40, Tryz.ntmps40
   go_upto_region 1 with fail
   generalize (((w.alloc (.cells #[.int .i64 7, .int .i64 an, .string as_, .slice Aa al.length (capF al.length ca)] 24)).alloc (.cells #[.int .i64 bk, .int .i64 bn, .string bs, .slice Ab bl.length (capF bl.length cb)] 24)).alloc (.cells #[.int .i64 0, .int .i64 0, .string ⟨#[]⟩, .slice none 0 0] 24)) = W0 at *
   obtain ⟨⟨y0, y1, _, _⟩, _⟩ := la.four
   obtain ⟨⟨y4, y5, _, _⟩, _⟩ := lb.four
   have HC := Lib.hid (failH_any W0)
   obtain ⟨U, hU⟩ : ∃ U, U = failE := ⟨_, rfl⟩
   rw [← hU] at HC HE
   clear hU
   obtain ⟨uk, un, us, ul⟩ := U
   go_wp2_with fail
   refine HC.out.mono ?_
   rintro e w2 ⟨A2, c2, rfl, hT, hb2⟩
   simp only [ev, Te.kind, Te.n, Te.name, Te.parts]
   have lz2 := lz.below hb2 lz.lt
   have hbw := hb0.trans (hb2.mono hb0.size)
   obtain ⟨⟨x0, x1, x2, x3⟩, g0, g1, g2, g3⟩ := lz2.four
   have HT := Lib.hid hT
   have HW := Lib.hid hbw
   clear hT hb2 hbw HC
   go_wp2_with fail
   refine bodyPost_ret (res_term2 (p := 6) (q := 7) Tryz.results40 rfl (lz2.all _ _ _ _)) rfl ?_
   rw [HE.out]
   exact gives_allS HT.out (by omega) lz.lt HW.out _ _ _ _
 ·have HE : Hid (reckonE s (.node ak an as_ al) (.node bk bn bs bl) = (failE, 4)) := Lib.hid (by rw [reckonE]; exact if_neg (fun h => h7 h.1))
  have e7 : (ak == 7) = false := by simpa using h7
  have e7' : (ak != 7) = true := by simpa using h7
  clear hA hB h7
  go_enter Tryz.func40, Tryz.ntmps40
  go_upto_region 1 with fail
  generalize (((w.alloc (.cells #[.int .i64 ak, .int .i64 an, .string as_, .slice Aa al.length (capF al.length ca)] 24)).alloc (.cells #[.int .i64 bk, .int .i64 bn, .string bs, .slice Ab bl.length (capF bl.length cb)] 24)).alloc (.cells #[.int .i64 0, .int .i64 0, .string ⟨#[]⟩, .slice none 0 0] 24)) = W0 at *
  obtain ⟨⟨y0, y1, _, _⟩, _⟩ := la.four
  obtain ⟨⟨y4, y5, _, _⟩, _⟩ := lb.four
  have HC := Lib.hid (failH_any W0)
  obtain ⟨U, hU⟩ : ∃ U, U = failE := ⟨_, rfl⟩
  rw [← hU] at HC HE
  clear hU
  obtain ⟨uk, un, us, ul⟩ := U
  go_wp2_with fail
  refine HC.out.mono ?_
  rintro e w2 ⟨A2, c2, rfl, hT, hb2⟩
  simp only [ev, Te.kind, Te.n, Te.name, Te.parts]
  have lz2 := lz.below hb2 lz.lt
  have hbw := hb0.trans (hb2.mono hb0.size)
  obtain ⟨⟨x0, x1, x2, x3⟩, g0, g1, g2, g3⟩ := lz2.four
  have HT := Lib.hid hT
  have HW := Lib.hid hbw
  clear hT hb2 hbw HC
  go_wp2_with fail
  refine bodyPost_ret (res_term2 (p := 6) (q := 7) Tryz.results40 rfl (lz2.all _ _ _ _)) rfl ?_
  rw [HE.out]
  exact gives_allS HT.out (by omega) lz.lt HW.out _ _ _ _
def GivesA (X : Nat → Prop) (t : Te) (x : Int) (w : World) (e : Ending) (w' : World) : Prop :=
 ∃ A c, e = .returned (.tuple #[ev t A c, .int .i64 x]) ∧ EIn w' (fun g => X g ∨ w.heap.size ≤ g) t A ∧ Below w.heap.size w w'
theorem GivesS.a {X : Nat → Prop} {t : Te} {x : Int} {w w' : World} {e : Ending} (h : GivesS t x w e w') : GivesA X t x w e w' := by
 obtain ⟨A, c, h1, h2, h3⟩ := h
 exact ⟨A, c, h1, EIn.wide _ h2 fun g hg _ => .inr hg, h3⟩
theorem prt_get {l : List Te} {i : Nat} (h : i < l.length) : prt l i = l[i]'h := by rw [prt, List.getD_eq_getElem?_getD, List.getElem?_eq_getElem h]; rfl
theorem fine_part {t : Te} (h : FineT t) {i : Nat} (hi : i < t.parts.length) : FineT (prt t.parts i) := by
 obtain ⟨k, n, s, l⟩ := t
 obtain ⟨h1, h2, h3⟩ := h
 rw [depthE] at h1
 rw [sizeE] at h2
 rw [tameE] at h3
 rw [prt_get hi]
 have hmem : (l[i]'hi) ∈ l := List.getElem_mem hi
 have d := depthEL_mem l _ hmem
 have s := sizeEL_mem l _ hmem
 exact ⟨by show depthE (l[i]'hi) ≤ _; omega, by show sizeE (l[i]'hi) ≤ _; omega, tameEL_mem l _ hmem h3.2.2⟩
theorem alt_one {k n : Int} {s : ByteArray} {l : List Te} {f : Int} (h : mayQ (.node k n s l) f true = true) : l.length = 1 := by
 have h1 := (may_node h).1
 simp [headR] at h1
 exact h1.2.2.2.2
theorem elin_shift : ∀ (l : List Te) {w : World} {X : Nat → Prop} {g o j : Nat}, ELIn w X l (some ⟨g, o, none⟩) (j + 1) → ELIn w X l (some ⟨g, o + 4, none⟩) j
 | [], w, X, g, o, j, _ => by rw [ELIn]; trivial
 | t :: r, w, X, g, o, j, h => by
  rw [ELIn] at h ⊢
  obtain ⟨⟨g1, o1, A', c, ⟨e, hX⟩, h0, h1, h2, h3, h4⟩, hr⟩ := h
  cases e
  rw [show o + (j + 1) * 4 = o + 4 + j * 4 from by omega] at h0 h1 h2 h3
  exact ⟨⟨g, o + 4, A', c, ⟨rfl, hX⟩, h0, h1, h2, h3, h4⟩, elin_shift r hr⟩
set_option maxHeartbeats 8000000 in
theorem act_any (f : Int) (X : Nat → Prop) (t : Te) (A : Option Addr) (c : Nat) (w : World) (hT : EIn w X t A) (hm : mayQ t f false = true) (hf : FineT t) :
  Calls Tryz.prog 24 #[ev t A c] w (GivesA X (actE t).1 (actE t).2 w) := by
 obtain ⟨tk, tn, ts, tl⟩ := t
 have hb0 : Below w.heap.size w ((w.alloc (.cells #[.int .i64 tk, .int .i64 tn, .string ts, .slice A tl.length (capF tl.length c)] 24)).alloc (.cells #[.int .i64 0, .int .i64 0, .string ⟨#[]⟩, .slice none 0 0] 24)) := below2_new _ _
 have lt : Lies ((w.alloc (.cells #[.int .i64 tk, .int .i64 tn, .string ts, .slice A tl.length (capF tl.length c)] 24)).alloc (.cells #[.int .i64 0, .int .i64 0, .string ⟨#[]⟩, .slice none 0 0] 24)) w.heap.size 24 #[.int .i64 tk, .int .i64 tn, .string ts, .slice A tl.length (capF tl.length c)] := (Lies.new w _ _).old _
 have lz : Lies ((w.alloc (.cells #[.int .i64 tk, .int .i64 tn, .string ts, .slice A tl.length (capF tl.length c)] 24)).alloc (.cells #[.int .i64 0, .int .i64 0, .string ⟨#[]⟩, .slice none 0 0] 24)) (w.heap.size + 1) 24 #[.int .i64 0, .int .i64 0, .string ⟨#[]⟩, .slice none 0 0] := by simpa using Lies.new (w.alloc (.cells #[.int .i64 tk, .int .i64 tn, .string ts, .slice A tl.length (capF tl.length c)] 24)) 24 #[.int .i64 0, .int .i64 0, .string ⟨#[]⟩, .slice none 0 0]
 have hb0lt : w.heap.size + 2 ≤ ((w.alloc (.cells #[.int .i64 tk, .int .i64 tn, .string ts, .slice A tl.length (capF tl.length c)] 24)).alloc (.cells #[.int .i64 0, .int .i64 0, .string ⟨#[]⟩, .slice none 0 0] 24)).heap.size := by simp
 show Calls Tryz.prog 24 #[.agg #[.int .i64 tk, .int .i64 tn, .string ts, .slice A tl.length (capF tl.length c)]] w _
 by_cases h3 : tk = 3
 ·subst h3
  obtain ⟨h2, hfp, hfr, hmp⟩ : 2 ≤ tl.length ∧ FineT (prt tl 0) ∧ FineT (prt tl 1) ∧ mayQ (prt tl 0) f false = true := by
   have hl := ((may_len hm).2.1 (.inl rfl))
   refine ⟨by omega, fine_part hf (by show 0 < tl.length; omega), fine_part hf (by show 1 < tl.length; omega), ?_⟩
   have h9 := may_at 3 [] tl _ 0 (by omega) (may_node hm).2
   rw [prt_get (by omega)]
   simpa [moreE] using h9
  obtain ⟨gp, op, Ap, cp, ⟨hAp, _⟩, d0, d1, d2, d3, hInp⟩ := EIn.part hT 0 (by show 0 < tl.length; omega)
  obtain ⟨gr, or, Ar, cr, ⟨hAr, _⟩, e0, e1, e2, e3, hInr⟩ := EIn.part hT 1 (by show 1 < tl.length; omega)
  subst hAp
  cases hAr
  simp only [Te.parts, Nat.zero_mul, Nat.add_zero, Nat.one_mul, Nat.add_assoc] at d0 d1 d2 d3 e0 e1 e2 e3 hInp hInr
  have HE0 : actE (.node 3 tn ts tl) = applyE (prt tl 0) (prt tl 1) := by rfl
  rw [prt_get (by omega)] at hfp HE0 hmp
  rw [prt_get (by omega)] at hfr HE0
  obtain ⟨P, hP⟩ : ∃ P, P = tl[0]'(by omega) := ⟨_, rfl⟩
  obtain ⟨R, hR⟩ : ∃ R, R = tl[1]'(by omega) := ⟨_, rfl⟩
  rw [← hP] at d0 d1 d2 d3 hInp hfp HE0 hmp
  rw [← hR] at e0 e1 e2 e3 hInr hfr HE0
  have hgp := cell_lt d0
  have HPA := Lib.hid (fun X (hX : Below w.heap.size w X) => apply_any P R Ap Ar cp cr X (EIn.any _ (EIn.below _ hInp hX (Nat.le_refl _))) (EIn.any _ (EIn.below _ hInr hX (Nat.le_refl _))) hfp hfr (fun h => by obtain ⟨pk, pn, ps, pl⟩ := P; have := (may_len hmp).1 h; show 1 ≤ pl.length; omega) (fun h => fine_part hfp (by obtain ⟨pk, pn, ps, pl⟩ := P; have := (may_len hmp).1 h; show 0 < pl.length; omega)))
  obtain ⟨UX, hU⟩ : ∃ u, u = applyE P R := ⟨_, rfl⟩
  rw [← hU] at HE0
  have HPU0 : ∀ X, Below w.heap.size w X → Calls Tryz.prog 38 #[ev P Ap cp, ev R Ar cr] X (GivesS UX.1 UX.2 X) := fun X hX => by rw [hU]; exact HPA.out X hX
  obtain ⟨U, x⟩ := UX
  obtain ⟨uk, un, us, ul⟩ := U
  obtain ⟨mt, hmt⟩ : ∃ m, m = tl.length := ⟨_, rfl⟩
  rw [← hmt] at lt hb0 lz hb0lt h2 ⊢
  generalize capF mt c = ct at *
  clear hP hR hmt hU HPA hfp hfr hmp hInp hInr hm hf hT
  obtain ⟨pk, pn, ps, pl⟩ := P
  obtain ⟨rk, rn, rs, rl⟩ := R
  simp only [Te.kind, Te.n, Te.name] at d0 d1 d2 d3 e0 e1 e2 e3
  have HE : Hid (actE (.node 3 tn ts tl) = (Te.node uk un us ul, x)) := Lib.hid HE0
  clear HE0
  go_enter Tryz.func24, Tryz.ntmps24
  go_upto_region 3 with fail
  generalize ((w.alloc (.cells #[.int .i64 3, .int .i64 tn, .string ts, .slice (some ⟨gp, op, none⟩) mt ct] 24)).alloc (.cells #[.int .i64 0, .int .i64 0, .string ⟨#[]⟩, .slice none 0 0] 24)) = W0 at *
  have HPU : Hid (∀ X, Below W0.heap.size W0 X → Calls Tryz.prog 38 #[.agg #[.int .i64 pk, .int .i64 pn, .string ps, .slice Ap pl.length (capF pl.length cp)], .agg #[.int .i64 rk, .int .i64 rn, .string rs, .slice Ar rl.length (capF rl.length cr)]] X (GivesS (.node uk un us ul) x X)) := Lib.hid fun X hX => HPU0 X (hb0.trans (hX.mono hb0.size))
  have HSS : Hid (∀ V', Below W0.heap.size W0 V' → (fun V' : World => (V'.cell? ⟨w.heap.size, 0, none⟩ = some (.int .i64 3) ∧ V'.cell? ⟨w.heap.size, 1, none⟩ = some (.int .i64 tn) ∧ V'.cell? ⟨w.heap.size, 2, none⟩ = some (.string ts) ∧ V'.cell? ⟨w.heap.size, 3, none⟩ = some (.slice (some ⟨gp, op, none⟩) mt ct) ∧ V'.cell? ⟨gp, op, none⟩ = some (.int .i64 pk) ∧ V'.cell? ⟨gp, op + 1, none⟩ = some (.int .i64 pn) ∧ V'.cell? ⟨gp, op + 2, none⟩ = some (.string ps) ∧ V'.cell? ⟨gp, op + 3, none⟩ = some (.slice Ap pl.length (capF pl.length cp)) ∧ V'.cell? ⟨gp, op + 4, none⟩ = some (.int .i64 rk) ∧ V'.cell? ⟨gp, op + 5, none⟩ = some (.int .i64 rn) ∧ V'.cell? ⟨gp, op + 6, none⟩ = some (.string rs) ∧ V'.cell? ⟨gp, op + 7, none⟩ = some (.slice Ar rl.length (capF rl.length cr)))) V') := Lib.hid fun V' h =>
   ⟨(h.cell (p := ⟨w.heap.size, 0, none⟩) lt.lt).trans (lt.cell 0), (h.cell (p := ⟨w.heap.size, 1, none⟩) lt.lt).trans (lt.cell 1), (h.cell (p := ⟨w.heap.size, 2, none⟩) lt.lt).trans (lt.cell 2), (h.cell (p := ⟨w.heap.size, 3, none⟩) lt.lt).trans (lt.cell 3), ((hb0.trans (h.mono hb0.size)).cell (p := ⟨gp, _, none⟩) hgp).trans d0, ((hb0.trans (h.mono hb0.size)).cell (p := ⟨gp, _, none⟩) hgp).trans d1, ((hb0.trans (h.mono hb0.size)).cell (p := ⟨gp, _, none⟩) hgp).trans d2, ((hb0.trans (h.mono hb0.size)).cell (p := ⟨gp, _, none⟩) hgp).trans d3, ((hb0.trans (h.mono hb0.size)).cell (p := ⟨gp, _, none⟩) hgp).trans e0, ((hb0.trans (h.mono hb0.size)).cell (p := ⟨gp, _, none⟩) hgp).trans e1, ((hb0.trans (h.mono hb0.size)).cell (p := ⟨gp, _, none⟩) hgp).trans e2, ((hb0.trans (h.mono hb0.size)).cell (p := ⟨gp, _, none⟩) hgp).trans e3⟩
  clear d0 d1 d2 d3 e0 e1 e2 e3 lt HPU0
  have hb_1 : Below W0.heap.size W0 W0 := Below.refl _ _
  refine wp_region_K (S := (fun V' : World => (V'.cell? ⟨w.heap.size, 0, none⟩ = some (.int .i64 3) ∧ V'.cell? ⟨w.heap.size, 1, none⟩ = some (.int .i64 tn) ∧ V'.cell? ⟨w.heap.size, 2, none⟩ = some (.string ts) ∧ V'.cell? ⟨w.heap.size, 3, none⟩ = some (.slice (some ⟨gp, op, none⟩) mt ct) ∧ V'.cell? ⟨gp, op, none⟩ = some (.int .i64 pk) ∧ V'.cell? ⟨gp, op + 1, none⟩ = some (.int .i64 pn) ∧ V'.cell? ⟨gp, op + 2, none⟩ = some (.string ps) ∧ V'.cell? ⟨gp, op + 3, none⟩ = some (.slice Ap pl.length (capF pl.length cp)) ∧ V'.cell? ⟨gp, op + 4, none⟩ = some (.int .i64 rk) ∧ V'.cell? ⟨gp, op + 5, none⟩ = some (.int .i64 rn) ∧ V'.cell? ⟨gp, op + 6, none⟩ = some (.string rs) ∧ V'.cell? ⟨gp, op + 7, none⟩ = some (.slice Ar rl.length (capF rl.length cr))))) 12 rfl (HSS.out _ hb_1.drew) (fun hSs => ?_)
  change wpAnyK _ _ _ _ _ _ 13 (Array.replicate 13 false) _ _
  refine tkA (i := 0) (oi := ⟨some 8, _, _, _, _, _⟩) (v := .pointer (some ⟨w.heap.size, 3, none⟩)) hSs ?_
  try go_frame
  refine tkA (i := 1) (oi := ⟨some 9, _, _, _, _, _⟩) (v := .slice (some ⟨gp, op, none⟩) mt ct) hSs ?_
  try go_frame
  refine tkA (i := 2) (oi := ⟨some 10, _, _, _, _, _⟩) (v := .pointer (some ⟨gp, op, none⟩)) hSs ?_
  try go_frame
  refine tkA (i := 3) (oi := ⟨some 11, _, _, _, _, _⟩) (v := .agg #[.int .i64 pk, .int .i64 pn, .string ps, .slice Ap pl.length (capF pl.length cp)]) hSs ?_
  try go_frame
  refine tkA (i := 4) (oi := ⟨some 12, _, _, _, _, _⟩) (v := .pointer (some ⟨w.heap.size, 3, none⟩)) hSs ?_
  try go_frame
  refine tkA (i := 5) (oi := ⟨some 13, _, _, _, _, _⟩) (v := .slice (some ⟨gp, op, none⟩) mt ct) hSs ?_
  try go_frame
  refine tkA (i := 6) (oi := ⟨some 14, _, _, _, _, _⟩) (v := .pointer (some ⟨gp, op + 4, none⟩)) hSs ?_
  try go_frame
  refine tkA (i := 7) (oi := ⟨some 15, _, _, _, _, _⟩) (v := .agg #[.int .i64 rk, .int .i64 rn, .string rs, .slice Ar rl.length (capF rl.length cr)]) hSs ?_
  try go_frame
  refine wpAnyK_one  (i := 8) rfl rfl (by kernel_rfl) (fun K hK => ?_)
  go_simp
  refine (HPU.out _ (hb_1.drew) ).mono ?_
  rintro e u_2 ⟨A_2, c_2, rfl, hT_2, hq_2⟩
  have hb_2 := (hb_1.drew).trans (hq_2.mono (hb_1.drew).size)
  have lz_2 := (lz.drew).below hq_2 lz.lt
  refine hK.out _ _ (fun _ => HSS.out _ hb_2) (fun hS9 => ?_)
  have hS_2 := hS9 (by decide)
  clear hK K hS9
  try go_frame
  refine tkB (i := 9) (oi := ⟨some 17, _, _, _, _, _⟩) (v := .agg #[.int .i64 uk, .int .i64 un, .string us, .slice A_2 ul.length (capF ul.length c_2)]) hS_2 ?_
  try go_frame
  refine tkB (i := 10) (oi := ⟨some 18, _, _, _, _, _⟩) (v := .int .i64 x) hS_2 ?_
  try go_frame
  refine wpAnyK_one  (i := 11) rfl rfl (by kernel_rfl) (fun K hK => ?_)
  obtain ⟨z0, z1, z2, z3, z4, z5, z6, z7, z8, z9, z10, z11⟩ := hS_2
  refine wp_store_as (F := fun W9 => (Below w.heap.size w W9 ∧ Lies W9 (w.heap.size + 1) 24 #[.int .i64 uk, .int .i64 un, .string us, .slice A_2 ul.length (capF ul.length c_2)] ∧ EIn W9 (fun b => w.heap.size ≤ b) (.node uk un us ul) A_2) ∧ (fun V' : World => (V'.cell? ⟨w.heap.size, 0, none⟩ = some (.int .i64 3) ∧ V'.cell? ⟨w.heap.size, 1, none⟩ = some (.int .i64 tn) ∧ V'.cell? ⟨w.heap.size, 2, none⟩ = some (.string ts) ∧ V'.cell? ⟨w.heap.size, 3, none⟩ = some (.slice (some ⟨gp, op, none⟩) mt ct) ∧ V'.cell? ⟨gp, op, none⟩ = some (.int .i64 pk) ∧ V'.cell? ⟨gp, op + 1, none⟩ = some (.int .i64 pn) ∧ V'.cell? ⟨gp, op + 2, none⟩ = some (.string ps) ∧ V'.cell? ⟨gp, op + 3, none⟩ = some (.slice Ap pl.length (capF pl.length cp)) ∧ V'.cell? ⟨gp, op + 4, none⟩ = some (.int .i64 rk) ∧ V'.cell? ⟨gp, op + 5, none⟩ = some (.int .i64 rn) ∧ V'.cell? ⟨gp, op + 6, none⟩ = some (.string rs) ∧ V'.cell? ⟨gp, op + 7, none⟩ = some (.slice Ar rl.length (capF rl.length cr)))) W9) _ _ _ rfl (w.heap.size + 1) 0 #[.int .i64 uk, .int .i64 un, .string us, .slice A_2 ul.length (capF ul.length c_2)] rfl rfl (lies_is lz_2 rfl) (by kernel_rfl) (by simp [Value.oneCell'])
   ⟨⟨below_cells (hb0.trans (hb_2.mono hb0.size)) (by omega) _ _, lies_set4 lz_2 _ _ _ _, EIn.wide _ (ein_offs _ hT_2 (fun h => by have h9 : W0.heap.size ≤ w.heap.size + 1 := h; have := hb0lt; omega) _ _) (fun b hb _ => by have h9 : W0.heap.size ≤ b := hb; have := hb0.size; omega)⟩, ⟨(cell_offs _ (w.heap.size + 1) _ (by omega) _ _ _).trans z0, (cell_offs _ (w.heap.size + 1) _ (by omega) _ _ _).trans z1, (cell_offs _ (w.heap.size + 1) _ (by omega) _ _ _).trans z2, (cell_offs _ (w.heap.size + 1) _ (by omega) _ _ _).trans z3, (cell_offs _ (w.heap.size + 1) _ (by omega) _ _ _).trans z4, (cell_offs _ (w.heap.size + 1) _ (by omega) _ _ _).trans z5, (cell_offs _ (w.heap.size + 1) _ (by omega) _ _ _).trans z6, (cell_offs _ (w.heap.size + 1) _ (by omega) _ _ _).trans z7, (cell_offs _ (w.heap.size + 1) _ (by omega) _ _ _).trans z8, (cell_offs _ (w.heap.size + 1) _ (by omega) _ _ _).trans z9, (cell_offs _ (w.heap.size + 1) _ (by omega) _ _ _).trans z10, (cell_offs _ (w.heap.size + 1) _ (by omega) _ _ _).trans z11⟩⟩ (fun W_3 hF_3 => ?_)
  refine hK.out _ _ (fun _ => hF_3.2) (fun hS9 => ?_)
  have hS_3 := hS9 (by decide)
  clear hK K hS9
  try go_frame
  refine wpAnyK_one  (i := 12) rfl rfl (by kernel_rfl) (fun K hK => ?_)
  go_simp
  refine hK.out _ _ (fun h => absurd rfl h) (fun _ => ?_)
  clear hK K
  try go_frame
  refine wpAnyK_done (by kernel_rfl) ?_ _
  obtain ⟨⟨f1, f2, f3⟩, _⟩ := hF_3
  go_wp2_with fail
  refine bodyPost_ret (res_term2 (p := 2) (q := 3) Tryz.results24 rfl f2) rfl ?_
  rw [HE.out]
  exact GivesS.a ⟨A_2, c_2, rfl, f3, f1⟩
 ·have e3 : (tk == 3) = false := by simpa using h3
  by_cases h5 : tk = 5
  ·subst h5
   have hl5 := (may_len hm).2.2.1 rfl
   have hl9 := (may_len hm).2.2.2.2.2
   have hmq := (may_node hm).2
   have hfp : FineT (prt tl 0) := fine_part hf (by show 0 < tl.length; omega)
   have hmp : mayQ (prt tl 0) f false = true := by
    have h9 := may_at 5 [] tl _ 0 (by omega) hmq
    rw [prt_get (by omega)]
    simpa [moreE] using h9
   have hal : ∀ t ∈ tl.drop 1, 1 ≤ t.parts.length ∧ FineT (prt t.parts 0) := fun t ht => by
    obtain ⟨j, hj, rfl⟩ := List.getElem_of_mem ht
    rw [List.length_drop] at hj
    rw [List.getElem_drop]
    have h9 := may_at 5 [] tl _ (1 + j) (by omega) hmq
    have h8 : FineT (tl[1 + j]'(by omega)) := by rw [← prt_get (by omega)]; exact fine_part hf (by show 1 + j < tl.length; omega)
    have h6 : (decide ((5 : Int) = 5) && decide (0 < ([] : List Te).length + (1 + j))) = true := by simp; omega
    rw [h6] at h9
    generalize tl[1 + j]'(by omega) = u at h9 h8
    obtain ⟨uk, un, us, ul⟩ := u
    have h7 := alt_one h9
    exact ⟨by show 1 ≤ ul.length; omega, fine_part h8 (by show 0 < ul.length; omega)⟩
   obtain ⟨gp, op, Ap, cp, ⟨hAp, _⟩, d0, d1, d2, d3, hInp⟩ := EIn.part hT 0 (by show 0 < tl.length; omega)
   have hEL : ELIn w X tl A 0 := by rw [EIn] at hT; exact hT.2.2
   subst hAp
   simp only [Te.parts, Nat.zero_mul, Nat.add_zero] at d0 d1 d2 d3 hInp
   have HE0 : actE (.node 5 tn ts tl) = chooseE (prt tl 0) (tl.drop 1) := by rfl
   rw [prt_get (by omega)] at hfp HE0 hmp
   have hsh : ELIn w Any (tl.drop 1) (some ⟨gp, op + 4, none⟩) 0 := by
    cases tl with
    | nil => rw [List.drop_nil, ELIn]; trivial
    | cons a r =>
     rw [ELIn] at hEL
     exact ELIn.keep r (elin_shift r hEL.2) fun _ _ _ _ => ⟨rfl, trivial⟩
   have hld : tl.length - 1 = (tl.drop 1).length := by rw [List.length_drop]
   obtain ⟨P, hP⟩ : ∃ P, P = tl[0]'(by omega) := ⟨_, rfl⟩
   rw [← hP] at d0 d1 d2 d3 hInp hfp HE0 hmp
   have hgp := cell_lt d0
   have hps : (∀ t ∈ P.parts, FineT t) ∧ P.parts.length ≤ 1000 := by
    obtain ⟨pk, pn, ps, pl⟩ := P
    have h9 := (may_len hmp).2.2.2.2.2
    exact ⟨fun t ht => by
     obtain ⟨j, hj, rfl⟩ := List.getElem_of_mem ht
     have := fine_part hfp (i := j) hj
     rw [prt_get hj] at this
     exact this, by show pl.length ≤ 1000; omega⟩
   have HPA := Lib.hid (fun X (hX : Below w.heap.size w X) (cl : Nat) => choose_any P (tl.drop 1) Ap (some ⟨gp, op + 4, none⟩) cp (tl.length - 1) cl X hld (by omega) (EIn.any _ (EIn.below _ hInp hX (Nat.le_refl _))) (ELIn.keep _ hsh fun g j hg hlt => ⟨hX.cell (p := ⟨g, j, none⟩) hlt, hg⟩) hps.1 hps.2 hal)
   obtain ⟨UX, hU⟩ : ∃ u, u = chooseE P (tl.drop 1) := ⟨_, rfl⟩
   rw [← hU] at HE0
   have HPU0 : ∀ X, Below w.heap.size w X → ∀ cl : Nat, Calls Tryz.prog 39 #[ev P Ap cp, .slice (some ⟨gp, op + 4, none⟩) (tl.length - 1) cl] X (GivesS UX.1 UX.2 X) := fun X hX cl => by rw [hU]; exact HPA.out X hX cl
   obtain ⟨U, x⟩ := UX
   obtain ⟨uk, un, us, ul⟩ := U
   obtain ⟨mt, hmt⟩ : ∃ m, m = tl.length := ⟨_, rfl⟩
   have hct := le_capF mt c
   rw [← hmt] at lt hb0 lz hb0lt hl5 hl9 HPU0 ⊢
   generalize capF mt c = ct at *
   clear hP hmt hU HPA hfp hmp hInp hm hf hT hEL hsh hld hps hal hmq
   obtain ⟨pk, pn, ps, pl⟩ := P
   simp only [Te.kind, Te.n, Te.name] at d0 d1 d2 d3
   have HE : Hid (actE (.node 5 tn ts tl) = (Te.node uk un us ul, x)) := Lib.hid HE0
   clear HE0
   go_enter Tryz.func24, Tryz.ntmps24
   go_upto_region 5 with fail
   generalize ((w.alloc (.cells #[.int .i64 5, .int .i64 tn, .string ts, .slice (some ⟨gp, op, none⟩) mt ct] 24)).alloc (.cells #[.int .i64 0, .int .i64 0, .string ⟨#[]⟩, .slice none 0 0] 24)) = W0 at *
   have HPU : Hid (∀ X, Below W0.heap.size W0 X → Calls Tryz.prog 39 #[.agg #[.int .i64 pk, .int .i64 pn, .string ps, .slice Ap pl.length (capF pl.length cp)], .slice (some ⟨gp, op + 4, none⟩) (mt - 1) (ct - 1)] X (GivesS (.node uk un us ul) x X)) := Lib.hid fun X hX => HPU0 X (hb0.trans (hX.mono hb0.size)) _
   have HSS : Hid (∀ V', Below W0.heap.size W0 V' → (fun V' : World => (V'.cell? ⟨w.heap.size, 0, none⟩ = some (.int .i64 5) ∧ V'.cell? ⟨w.heap.size, 1, none⟩ = some (.int .i64 tn) ∧ V'.cell? ⟨w.heap.size, 2, none⟩ = some (.string ts) ∧ V'.cell? ⟨w.heap.size, 3, none⟩ = some (.slice (some ⟨gp, op, none⟩) mt ct) ∧ V'.cell? ⟨gp, op, none⟩ = some (.int .i64 pk) ∧ V'.cell? ⟨gp, op + 1, none⟩ = some (.int .i64 pn) ∧ V'.cell? ⟨gp, op + 2, none⟩ = some (.string ps) ∧ V'.cell? ⟨gp, op + 3, none⟩ = some (.slice Ap pl.length (capF pl.length cp)))) V') := Lib.hid fun V' h =>
    ⟨(h.cell (p := ⟨w.heap.size, 0, none⟩) lt.lt).trans (lt.cell 0), (h.cell (p := ⟨w.heap.size, 1, none⟩) lt.lt).trans (lt.cell 1), (h.cell (p := ⟨w.heap.size, 2, none⟩) lt.lt).trans (lt.cell 2), (h.cell (p := ⟨w.heap.size, 3, none⟩) lt.lt).trans (lt.cell 3), ((hb0.trans (h.mono hb0.size)).cell (p := ⟨gp, _, none⟩) hgp).trans d0, ((hb0.trans (h.mono hb0.size)).cell (p := ⟨gp, _, none⟩) hgp).trans d1, ((hb0.trans (h.mono hb0.size)).cell (p := ⟨gp, _, none⟩) hgp).trans d2, ((hb0.trans (h.mono hb0.size)).cell (p := ⟨gp, _, none⟩) hgp).trans d3⟩
   clear d0 d1 d2 d3 lt HPU0
   have hb_1 : Below W0.heap.size W0 W0 := Below.refl _ _
   refine wp_region_K (S := (fun V' : World => (V'.cell? ⟨w.heap.size, 0, none⟩ = some (.int .i64 5) ∧ V'.cell? ⟨w.heap.size, 1, none⟩ = some (.int .i64 tn) ∧ V'.cell? ⟨w.heap.size, 2, none⟩ = some (.string ts) ∧ V'.cell? ⟨w.heap.size, 3, none⟩ = some (.slice (some ⟨gp, op, none⟩) mt ct) ∧ V'.cell? ⟨gp, op, none⟩ = some (.int .i64 pk) ∧ V'.cell? ⟨gp, op + 1, none⟩ = some (.int .i64 pn) ∧ V'.cell? ⟨gp, op + 2, none⟩ = some (.string ps) ∧ V'.cell? ⟨gp, op + 3, none⟩ = some (.slice Ap pl.length (capF pl.length cp))))) 11 rfl (HSS.out _ hb_1.drew) (fun hSs => ?_)
   change wpAnyK _ _ _ _ _ _ 12 (Array.replicate 12 false) _ _
   refine tkA (i := 0) (oi := ⟨some 21, _, _, _, _, _⟩) (v := .pointer (some ⟨w.heap.size, 3, none⟩)) hSs ?_
   try go_frame
   refine tkA (i := 1) (oi := ⟨some 22, _, _, _, _, _⟩) (v := .slice (some ⟨gp, op, none⟩) mt ct) hSs ?_
   try go_frame
   refine tkA (i := 2) (oi := ⟨some 23, _, _, _, _, _⟩) (v := .pointer (some ⟨gp, op, none⟩)) hSs ?_
   try go_frame
   refine tkA (i := 3) (oi := ⟨some 24, _, _, _, _, _⟩) (v := .agg #[.int .i64 pk, .int .i64 pn, .string ps, .slice Ap pl.length (capF pl.length cp)]) hSs ?_
   try go_frame
   refine tkA (i := 4) (oi := ⟨some 25, _, _, _, _, _⟩) (v := .pointer (some ⟨w.heap.size, 3, none⟩)) hSs ?_
   try go_frame
   refine tkA (i := 5) (oi := ⟨some 26, _, _, _, _, _⟩) (v := .slice (some ⟨gp, op, none⟩) mt ct) hSs ?_
   try go_frame
   refine wpAnyK_take (i := 6) (oi := ⟨some 27, _, _, _, _, _⟩) (v := .slice (some ⟨gp, op + 4, none⟩) (mt - 1) (ct - 1)) rfl (by kernel_rfl) (by kernel_rfl) (by kernel_rfl) (by kernel_rfl) (fun _ _ _ h => h) (.inl ⟨by kernel_rfl, fun W hW => by first | (obtain ⟨z0, z1, z2, z3, z4, z5, z6, z7⟩ := hW; go_simp; done) | (obtain ⟨z0, z1, z2, z3, z4, z5, z6, z7⟩ := hW; go_simp; omega) | (obtain ⟨z0, z1, z2, z3, z4, z5, z6, z7⟩ := hW; go_simp; exact IntWalk.i64_in _ (by omega)) | (obtain ⟨z0, z1, z2, z3, z4, z5, z6, z7⟩ := hW; go_simp; rw [if_pos (show (1 : Int) ≤ (mt : Int) by omega), if_neg (show ¬ ct = 1 by omega)])⟩) hSs ?_
   try go_frame
   refine wpAnyK_one  (i := 7) rfl rfl (by kernel_rfl) (fun K hK => ?_)
   go_simp
   refine (HPU.out _ (hb_1.drew) ).mono ?_
   rintro e u_2 ⟨A_2, c_2, rfl, hT_2, hq_2⟩
   have hb_2 := (hb_1.drew).trans (hq_2.mono (hb_1.drew).size)
   have lz_2 := (lz.drew).below hq_2 lz.lt
   refine hK.out _ _ (fun _ => HSS.out _ hb_2) (fun hS9 => ?_)
   have hS_2 := hS9 (by decide)
   clear hK K hS9
   try go_frame
   refine tkB (i := 8) (oi := ⟨some 29, _, _, _, _, _⟩) (v := .agg #[.int .i64 uk, .int .i64 un, .string us, .slice A_2 ul.length (capF ul.length c_2)]) hS_2 ?_
   try go_frame
   refine tkB (i := 9) (oi := ⟨some 30, _, _, _, _, _⟩) (v := .int .i64 x) hS_2 ?_
   try go_frame
   refine wpAnyK_one  (i := 10) rfl rfl (by kernel_rfl) (fun K hK => ?_)
   obtain ⟨z0, z1, z2, z3, z4, z5, z6, z7⟩ := hS_2
   refine wp_store_as (F := fun W9 => (Below w.heap.size w W9 ∧ Lies W9 (w.heap.size + 1) 24 #[.int .i64 uk, .int .i64 un, .string us, .slice A_2 ul.length (capF ul.length c_2)] ∧ EIn W9 (fun b => w.heap.size ≤ b) (.node uk un us ul) A_2) ∧ (fun V' : World => (V'.cell? ⟨w.heap.size, 0, none⟩ = some (.int .i64 5) ∧ V'.cell? ⟨w.heap.size, 1, none⟩ = some (.int .i64 tn) ∧ V'.cell? ⟨w.heap.size, 2, none⟩ = some (.string ts) ∧ V'.cell? ⟨w.heap.size, 3, none⟩ = some (.slice (some ⟨gp, op, none⟩) mt ct) ∧ V'.cell? ⟨gp, op, none⟩ = some (.int .i64 pk) ∧ V'.cell? ⟨gp, op + 1, none⟩ = some (.int .i64 pn) ∧ V'.cell? ⟨gp, op + 2, none⟩ = some (.string ps) ∧ V'.cell? ⟨gp, op + 3, none⟩ = some (.slice Ap pl.length (capF pl.length cp)))) W9) _ _ _ rfl (w.heap.size + 1) 0 #[.int .i64 uk, .int .i64 un, .string us, .slice A_2 ul.length (capF ul.length c_2)] rfl rfl (lies_is lz_2 rfl) (by kernel_rfl) (by simp [Value.oneCell'])
    ⟨⟨below_cells (hb0.trans (hb_2.mono hb0.size)) (by omega) _ _, lies_set4 lz_2 _ _ _ _, EIn.wide _ (ein_offs _ hT_2 (fun h => by have h9 : W0.heap.size ≤ w.heap.size + 1 := h; have := hb0lt; omega) _ _) (fun b hb _ => by have h9 : W0.heap.size ≤ b := hb; have := hb0.size; omega)⟩, ⟨(cell_offs _ (w.heap.size + 1) _ (by omega) _ _ _).trans z0, (cell_offs _ (w.heap.size + 1) _ (by omega) _ _ _).trans z1, (cell_offs _ (w.heap.size + 1) _ (by omega) _ _ _).trans z2, (cell_offs _ (w.heap.size + 1) _ (by omega) _ _ _).trans z3, (cell_offs _ (w.heap.size + 1) _ (by omega) _ _ _).trans z4, (cell_offs _ (w.heap.size + 1) _ (by omega) _ _ _).trans z5, (cell_offs _ (w.heap.size + 1) _ (by omega) _ _ _).trans z6, (cell_offs _ (w.heap.size + 1) _ (by omega) _ _ _).trans z7⟩⟩ (fun W_3 hF_3 => ?_)
   refine hK.out _ _ (fun _ => hF_3.2) (fun hS9 => ?_)
   have hS_3 := hS9 (by decide)
   clear hK K hS9
   try go_frame
   refine wpAnyK_one  (i := 11) rfl rfl (by kernel_rfl) (fun K hK => ?_)
   go_simp
   refine hK.out _ _ (fun h => absurd rfl h) (fun _ => ?_)
   clear hK K
   try go_frame
   refine wpAnyK_done (by kernel_rfl) ?_ _
   obtain ⟨⟨f1, f2, f3⟩, _⟩ := hF_3
   go_wp2_with fail
   refine bodyPost_ret (res_term2 (p := 2) (q := 3) Tryz.results24 rfl f2) rfl ?_
   rw [HE.out]
   exact GivesS.a ⟨A_2, c_2, rfl, f3, f1⟩
  ·have e5 : (tk == 5) = false := by simpa using h5
   by_cases h8 : tk = 8
   ·subst h8
    obtain ⟨h2, hfp, hfr, hmp⟩ : 2 ≤ tl.length ∧ FineT (prt tl 0) ∧ FineT (prt tl 1) ∧ mayQ (prt tl 0) f false = true := by
     have hl := ((may_len hm).2.1 (.inr rfl))
     refine ⟨by omega, fine_part hf (by show 0 < tl.length; omega), fine_part hf (by show 1 < tl.length; omega), ?_⟩
     have h9 := may_at 8 [] tl _ 0 (by omega) (may_node hm).2
     rw [prt_get (by omega)]
     simpa [moreE] using h9
    obtain ⟨gp, op, Ap, cp, ⟨hAp, _⟩, d0, d1, d2, d3, hInp⟩ := EIn.part hT 0 (by show 0 < tl.length; omega)
    obtain ⟨gr, or, Ar, cr, ⟨hAr, _⟩, e0, e1, e2, e3, hInr⟩ := EIn.part hT 1 (by show 1 < tl.length; omega)
    subst hAp
    cases hAr
    simp only [Te.parts, Nat.zero_mul, Nat.add_zero, Nat.one_mul, Nat.add_assoc] at d0 d1 d2 d3 e0 e1 e2 e3 hInp hInr
    have HE0 : actE (.node 8 tn ts tl) = reckonE ts (prt tl 0) (prt tl 1) := by rfl
    rw [prt_get (by omega)] at hfp HE0 hmp
    rw [prt_get (by omega)] at hfr HE0
    obtain ⟨P, hP⟩ : ∃ P, P = tl[0]'(by omega) := ⟨_, rfl⟩
    obtain ⟨R, hR⟩ : ∃ R, R = tl[1]'(by omega) := ⟨_, rfl⟩
    rw [← hP] at d0 d1 d2 d3 hInp hfp HE0 hmp
    rw [← hR] at e0 e1 e2 e3 hInr hfr HE0
    have hgp := cell_lt d0
    have HPA := Lib.hid (fun X (hX : Below w.heap.size w X) => reckon_any ts P R Ap Ar cp cr X (EIn.any _ (EIn.below _ hInp hX (Nat.le_refl _))) (EIn.any _ (EIn.below _ hInr hX (Nat.le_refl _))))
    obtain ⟨UX, hU⟩ : ∃ u, u = reckonE ts P R := ⟨_, rfl⟩
    rw [← hU] at HE0
    have HPU0 : ∀ X, Below w.heap.size w X → Calls Tryz.prog 40 #[.string ts, ev P Ap cp, ev R Ar cr] X (GivesS UX.1 UX.2 X) := fun X hX => by rw [hU]; exact HPA.out X hX
    obtain ⟨U, x⟩ := UX
    obtain ⟨uk, un, us, ul⟩ := U
    obtain ⟨mt, hmt⟩ : ∃ m, m = tl.length := ⟨_, rfl⟩
    rw [← hmt] at lt hb0 lz hb0lt h2 ⊢
    generalize capF mt c = ct at *
    clear hP hR hmt hU HPA hfp hfr hmp hInp hInr hm hf hT
    obtain ⟨pk, pn, ps, pl⟩ := P
    obtain ⟨rk, rn, rs, rl⟩ := R
    simp only [Te.kind, Te.n, Te.name] at d0 d1 d2 d3 e0 e1 e2 e3
    have HE : Hid (actE (.node 8 tn ts tl) = (Te.node uk un us ul, x)) := Lib.hid HE0
    clear HE0
    go_enter Tryz.func24, Tryz.ntmps24
    go_upto_region 7 with fail
    generalize ((w.alloc (.cells #[.int .i64 8, .int .i64 tn, .string ts, .slice (some ⟨gp, op, none⟩) mt ct] 24)).alloc (.cells #[.int .i64 0, .int .i64 0, .string ⟨#[]⟩, .slice none 0 0] 24)) = W0 at *
    have HPU : Hid (∀ X, Below W0.heap.size W0 X → Calls Tryz.prog 40 #[.string ts, .agg #[.int .i64 pk, .int .i64 pn, .string ps, .slice Ap pl.length (capF pl.length cp)], .agg #[.int .i64 rk, .int .i64 rn, .string rs, .slice Ar rl.length (capF rl.length cr)]] X (GivesS (.node uk un us ul) x X)) := Lib.hid fun X hX => HPU0 X (hb0.trans (hX.mono hb0.size))
    have HSS : Hid (∀ V', Below W0.heap.size W0 V' → (fun V' : World => (V'.cell? ⟨w.heap.size, 0, none⟩ = some (.int .i64 8) ∧ V'.cell? ⟨w.heap.size, 1, none⟩ = some (.int .i64 tn) ∧ V'.cell? ⟨w.heap.size, 2, none⟩ = some (.string ts) ∧ V'.cell? ⟨w.heap.size, 3, none⟩ = some (.slice (some ⟨gp, op, none⟩) mt ct) ∧ V'.cell? ⟨gp, op, none⟩ = some (.int .i64 pk) ∧ V'.cell? ⟨gp, op + 1, none⟩ = some (.int .i64 pn) ∧ V'.cell? ⟨gp, op + 2, none⟩ = some (.string ps) ∧ V'.cell? ⟨gp, op + 3, none⟩ = some (.slice Ap pl.length (capF pl.length cp)) ∧ V'.cell? ⟨gp, op + 4, none⟩ = some (.int .i64 rk) ∧ V'.cell? ⟨gp, op + 5, none⟩ = some (.int .i64 rn) ∧ V'.cell? ⟨gp, op + 6, none⟩ = some (.string rs) ∧ V'.cell? ⟨gp, op + 7, none⟩ = some (.slice Ar rl.length (capF rl.length cr)))) V') := Lib.hid fun V' h =>
     ⟨(h.cell (p := ⟨w.heap.size, 0, none⟩) lt.lt).trans (lt.cell 0), (h.cell (p := ⟨w.heap.size, 1, none⟩) lt.lt).trans (lt.cell 1), (h.cell (p := ⟨w.heap.size, 2, none⟩) lt.lt).trans (lt.cell 2), (h.cell (p := ⟨w.heap.size, 3, none⟩) lt.lt).trans (lt.cell 3), ((hb0.trans (h.mono hb0.size)).cell (p := ⟨gp, _, none⟩) hgp).trans d0, ((hb0.trans (h.mono hb0.size)).cell (p := ⟨gp, _, none⟩) hgp).trans d1, ((hb0.trans (h.mono hb0.size)).cell (p := ⟨gp, _, none⟩) hgp).trans d2, ((hb0.trans (h.mono hb0.size)).cell (p := ⟨gp, _, none⟩) hgp).trans d3, ((hb0.trans (h.mono hb0.size)).cell (p := ⟨gp, _, none⟩) hgp).trans e0, ((hb0.trans (h.mono hb0.size)).cell (p := ⟨gp, _, none⟩) hgp).trans e1, ((hb0.trans (h.mono hb0.size)).cell (p := ⟨gp, _, none⟩) hgp).trans e2, ((hb0.trans (h.mono hb0.size)).cell (p := ⟨gp, _, none⟩) hgp).trans e3⟩
    clear d0 d1 d2 d3 e0 e1 e2 e3 lt HPU0
    have hb_1 : Below W0.heap.size W0 W0 := Below.refl _ _
    refine wp_region_K (S := (fun V' : World => (V'.cell? ⟨w.heap.size, 0, none⟩ = some (.int .i64 8) ∧ V'.cell? ⟨w.heap.size, 1, none⟩ = some (.int .i64 tn) ∧ V'.cell? ⟨w.heap.size, 2, none⟩ = some (.string ts) ∧ V'.cell? ⟨w.heap.size, 3, none⟩ = some (.slice (some ⟨gp, op, none⟩) mt ct) ∧ V'.cell? ⟨gp, op, none⟩ = some (.int .i64 pk) ∧ V'.cell? ⟨gp, op + 1, none⟩ = some (.int .i64 pn) ∧ V'.cell? ⟨gp, op + 2, none⟩ = some (.string ps) ∧ V'.cell? ⟨gp, op + 3, none⟩ = some (.slice Ap pl.length (capF pl.length cp)) ∧ V'.cell? ⟨gp, op + 4, none⟩ = some (.int .i64 rk) ∧ V'.cell? ⟨gp, op + 5, none⟩ = some (.int .i64 rn) ∧ V'.cell? ⟨gp, op + 6, none⟩ = some (.string rs) ∧ V'.cell? ⟨gp, op + 7, none⟩ = some (.slice Ar rl.length (capF rl.length cr))))) 14 rfl (HSS.out _ hb_1.drew) (fun hSs => ?_)
    change wpAnyK _ _ _ _ _ _ 15 (Array.replicate 15 false) _ _
    refine tkA (i := 0) (oi := ⟨some 33, _, _, _, _, _⟩) (v := .pointer (some ⟨w.heap.size, 2, none⟩)) hSs ?_
    try go_frame
    refine tkA (i := 1) (oi := ⟨some 34, _, _, _, _, _⟩) (v := .string ts) hSs ?_
    try go_frame
    refine tkA (i := 2) (oi := ⟨some 35, _, _, _, _, _⟩) (v := .pointer (some ⟨w.heap.size, 3, none⟩)) hSs ?_
    try go_frame
    refine tkA (i := 3) (oi := ⟨some 36, _, _, _, _, _⟩) (v := .slice (some ⟨gp, op, none⟩) mt ct) hSs ?_
    try go_frame
    refine tkA (i := 4) (oi := ⟨some 37, _, _, _, _, _⟩) (v := .pointer (some ⟨gp, op, none⟩)) hSs ?_
    try go_frame
    refine tkA (i := 5) (oi := ⟨some 38, _, _, _, _, _⟩) (v := .agg #[.int .i64 pk, .int .i64 pn, .string ps, .slice Ap pl.length (capF pl.length cp)]) hSs ?_
    try go_frame
    refine tkA (i := 6) (oi := ⟨some 39, _, _, _, _, _⟩) (v := .pointer (some ⟨w.heap.size, 3, none⟩)) hSs ?_
    try go_frame
    refine tkA (i := 7) (oi := ⟨some 40, _, _, _, _, _⟩) (v := .slice (some ⟨gp, op, none⟩) mt ct) hSs ?_
    try go_frame
    refine tkA (i := 8) (oi := ⟨some 41, _, _, _, _, _⟩) (v := .pointer (some ⟨gp, op + 4, none⟩)) hSs ?_
    try go_frame
    refine tkA (i := 9) (oi := ⟨some 42, _, _, _, _, _⟩) (v := .agg #[.int .i64 rk, .int .i64 rn, .string rs, .slice Ar rl.length (capF rl.length cr)]) hSs ?_
    try go_frame
    refine wpAnyK_one  (i := 10) rfl rfl (by kernel_rfl) (fun K hK => ?_)
    go_simp
    refine (HPU.out _ (hb_1.drew) ).mono ?_
    rintro e u_2 ⟨A_2, c_2, rfl, hT_2, hq_2⟩
    have hb_2 := (hb_1.drew).trans (hq_2.mono (hb_1.drew).size)
    have lz_2 := (lz.drew).below hq_2 lz.lt
    refine hK.out _ _ (fun _ => HSS.out _ hb_2) (fun hS9 => ?_)
    have hS_2 := hS9 (by decide)
    clear hK K hS9
    try go_frame
    refine tkB (i := 11) (oi := ⟨some 44, _, _, _, _, _⟩) (v := .agg #[.int .i64 uk, .int .i64 un, .string us, .slice A_2 ul.length (capF ul.length c_2)]) hS_2 ?_
    try go_frame
    refine tkB (i := 12) (oi := ⟨some 45, _, _, _, _, _⟩) (v := .int .i64 x) hS_2 ?_
    try go_frame
    refine wpAnyK_one  (i := 13) rfl rfl (by kernel_rfl) (fun K hK => ?_)
    obtain ⟨z0, z1, z2, z3, z4, z5, z6, z7, z8, z9, z10, z11⟩ := hS_2
    refine wp_store_as (F := fun W9 => (Below w.heap.size w W9 ∧ Lies W9 (w.heap.size + 1) 24 #[.int .i64 uk, .int .i64 un, .string us, .slice A_2 ul.length (capF ul.length c_2)] ∧ EIn W9 (fun b => w.heap.size ≤ b) (.node uk un us ul) A_2) ∧ (fun V' : World => (V'.cell? ⟨w.heap.size, 0, none⟩ = some (.int .i64 8) ∧ V'.cell? ⟨w.heap.size, 1, none⟩ = some (.int .i64 tn) ∧ V'.cell? ⟨w.heap.size, 2, none⟩ = some (.string ts) ∧ V'.cell? ⟨w.heap.size, 3, none⟩ = some (.slice (some ⟨gp, op, none⟩) mt ct) ∧ V'.cell? ⟨gp, op, none⟩ = some (.int .i64 pk) ∧ V'.cell? ⟨gp, op + 1, none⟩ = some (.int .i64 pn) ∧ V'.cell? ⟨gp, op + 2, none⟩ = some (.string ps) ∧ V'.cell? ⟨gp, op + 3, none⟩ = some (.slice Ap pl.length (capF pl.length cp)) ∧ V'.cell? ⟨gp, op + 4, none⟩ = some (.int .i64 rk) ∧ V'.cell? ⟨gp, op + 5, none⟩ = some (.int .i64 rn) ∧ V'.cell? ⟨gp, op + 6, none⟩ = some (.string rs) ∧ V'.cell? ⟨gp, op + 7, none⟩ = some (.slice Ar rl.length (capF rl.length cr)))) W9) _ _ _ rfl (w.heap.size + 1) 0 #[.int .i64 uk, .int .i64 un, .string us, .slice A_2 ul.length (capF ul.length c_2)] rfl rfl (lies_is lz_2 rfl) (by kernel_rfl) (by simp [Value.oneCell'])
     ⟨⟨below_cells (hb0.trans (hb_2.mono hb0.size)) (by omega) _ _, lies_set4 lz_2 _ _ _ _, EIn.wide _ (ein_offs _ hT_2 (fun h => by have h9 : W0.heap.size ≤ w.heap.size + 1 := h; have := hb0lt; omega) _ _) (fun b hb _ => by have h9 : W0.heap.size ≤ b := hb; have := hb0.size; omega)⟩, ⟨(cell_offs _ (w.heap.size + 1) _ (by omega) _ _ _).trans z0, (cell_offs _ (w.heap.size + 1) _ (by omega) _ _ _).trans z1, (cell_offs _ (w.heap.size + 1) _ (by omega) _ _ _).trans z2, (cell_offs _ (w.heap.size + 1) _ (by omega) _ _ _).trans z3, (cell_offs _ (w.heap.size + 1) _ (by omega) _ _ _).trans z4, (cell_offs _ (w.heap.size + 1) _ (by omega) _ _ _).trans z5, (cell_offs _ (w.heap.size + 1) _ (by omega) _ _ _).trans z6, (cell_offs _ (w.heap.size + 1) _ (by omega) _ _ _).trans z7, (cell_offs _ (w.heap.size + 1) _ (by omega) _ _ _).trans z8, (cell_offs _ (w.heap.size + 1) _ (by omega) _ _ _).trans z9, (cell_offs _ (w.heap.size + 1) _ (by omega) _ _ _).trans z10, (cell_offs _ (w.heap.size + 1) _ (by omega) _ _ _).trans z11⟩⟩ (fun W_3 hF_3 => ?_)
    refine hK.out _ _ (fun _ => hF_3.2) (fun hS9 => ?_)
    have hS_3 := hS9 (by decide)
    clear hK K hS9
    try go_frame
    refine wpAnyK_one  (i := 14) rfl rfl (by kernel_rfl) (fun K hK => ?_)
    go_simp
    refine hK.out _ _ (fun h => absurd rfl h) (fun _ => ?_)
    clear hK K
    try go_frame
    refine wpAnyK_done (by kernel_rfl) ?_ _
    obtain ⟨⟨f1, f2, f3⟩, _⟩ := hF_3
    go_wp2_with fail
    refine bodyPost_ret (res_term2 (p := 2) (q := 3) Tryz.results24 rfl f2) rfl ?_
    rw [HE.out]
    exact GivesS.a ⟨A_2, c_2, rfl, f3, f1⟩
   ·have e8 : (tk == 8) = false := by simpa using h8
    have HE : Hid (actE (.node tk tn ts tl) = (Te.node tk tn ts tl, 0)) := Lib.hid (by rw [actE]; exact (if_neg h3).trans ((if_neg h5).trans (if_neg h8)))
    have HT := Lib.hid hT
    clear hT hm hf h3 h5 h8
    go_enter Tryz.func24, Tryz.ntmps24
    go_upto_region 1 with fail
    generalize ((w.alloc (.cells #[.int .i64 tk, .int .i64 tn, .string ts, .slice A tl.length (capF tl.length c)] 24)).alloc (.cells #[.int .i64 0, .int .i64 0, .string ⟨#[]⟩, .slice none 0 0] 24)) = W0 at *
    obtain ⟨⟨y0, y1, y2, y3⟩, _⟩ := lt.four
    obtain ⟨⟨z0, z1, z2, z3⟩, g0, g1, g2, g3⟩ := lz.four
    go_wp2_with fail
    refine bodyPost_ret (res_term2 (p := 2) (q := 3) Tryz.results24 rfl (lz.all _ _ _ _)) rfl ?_
    rw [HE.out]
    refine ⟨A, c, rfl, ?_, Below.all hb0 (by omega) _ _ _ _⟩
    refine EIn.keep _ HT.out fun b j hX hlt => ⟨?_, .inl hX⟩
    have hne : ∀ q, (⟨w.heap.size + 1, q, none⟩ : Addr) ≠ ⟨b, j, none⟩ := fun q e => by injection e with e; omega
    rw [World.cell?_setCell_other _ _ _ _ (hne _), World.cell?_setCell_other _ _ _ _ (hne _), World.cell?_setCell_other _ _ _ _ (hne _), World.cell?_setCell_other _ _ _ _ (hne _)]
    exact hb0.cell (p := ⟨b, j, none⟩) hlt
set_option maxHeartbeats 1000000 in
theorem estands_any (k n p : Int) (s : ByteArray) (A : Option Addr) (m c i : Nat) (w : World) :
  Calls Tryz.prog 54 #[.agg #[.int .i64 k, .int .i64 n, .string s, .slice A m c], .int .i64 i, .int .i64 p] w fun e w' => e = .returned (.bool (standsE k i p)) ∧ Below w.heap.size w w' := by
 have hb : Below w.heap.size w (w.alloc (.cells #[.int .i64 k, .int .i64 n, .string s, .slice A m c] 24)) := (Below.refl _ w).alloc (Nat.le_refl _) _
 by_cases h5 : k = 5
 ·subst h5
  by_cases hi : 0 < i
  ·have hi' : (0 : Int) < (i : Int) := by omega
   go_enter Tryz.func54, Tryz.ntmps54
   go_wp2_with fail
   go_ret
   refine ⟨ret_bool ?_, hb⟩
   by_cases hp : p = 6 <;> simp [standsE, hi, hp]
  ·have hi' : ¬ (0 : Int) < (i : Int) := by omega
   go_enter Tryz.func54, Tryz.ntmps54
   go_wp2_with fail
   go_ret
   refine ⟨ret_bool ?_, hb⟩
   by_cases hp : p = 6 <;> simp [standsE, hi, hp]
 ·have e5 : (k == 5) = false := by simpa using h5
  go_enter Tryz.func54, Tryz.ntmps54
  go_wp2_with fail
  go_ret
  refine ⟨ret_bool ?_, hb⟩
  by_cases hp : p = 6 <;> simp [standsE, h5, hp]
def blankE (n : Int) (s : List UInt8) : Bool := s == [] && decide (n = 0)
set_option maxHeartbeats 1000000 in
theorem eblank_any (k n : Int) (s : ByteArray) (A : Option Addr) (m c : Nat) (w : World) :
  Calls Tryz.prog 55 #[.agg #[.int .i64 k, .int .i64 n, .string s, .slice A m c]] w fun e w' => e = .returned (.bool (blankE n s.data.toList)) ∧ Below w.heap.size w w' := by
 have hb : Below w.heap.size w (w.alloc (.cells #[.int .i64 k, .int .i64 n, .string s, .slice A m c] 24)) := (Below.refl _ w).alloc (Nat.le_refl _) _
 rw [← data_list]
 by_cases hs : s.toList = []
 ·have hs2 : s.toList.isEmpty = true := by simp [hs]
  by_cases hn : n = 0
  ·subst hn
   go_enter Tryz.func55, Tryz.ntmps55
   go_wp2_with fail
   go_ret
   exact ⟨ret_bool (by simp [blankE, hs]), hb⟩
  ·go_enter Tryz.func55, Tryz.ntmps55
   go_wp2_with fail
   go_ret
   exact ⟨ret_bool (by simp [blankE, hn]), hb⟩
 ·have hs2 : s.toList.isEmpty = false := by simpa using hs
  go_enter Tryz.func55, Tryz.ntmps55
  go_wp2_with fail
  go_ret
  exact ⟨ret_bool (by simp [blankE, hs]), hb⟩
theorem eoper_any (s : ByteArray) (w : World) : Calls Tryz.prog 58 #[.string s] w fun e w' => e = .returned (.bool (opV s.data.toList)) ∧ w = w' := by
 go_enter Tryz.func58, Tryz.ntmps58
 go_wp2
 all_goals
  go_ret
  refine ⟨ret_bool ?_, rfl⟩
  rw [← data_list]
  simp_all [opV]
set_option maxHeartbeats 2000000 in
theorem econ_any (s : ByteArray) (w : World) (hg : Signs w) :
  Calls Tryz.prog 56 #[.string s] w fun e w' => e = .returned (.bool (conV s.data.toList)) ∧ Below w.heap.size w w' := by
 have hkv : kindV 2 s.data.toList = conV s.data.toList := by simp [kindV]
 rw [← hkv]
 clear hkv
 by_cases h16 : 16 < s.size
 ·have HF := Lib.hid (kindV_long s.data.toList 2 (by simpa using h16))
  have h16' : (16 : Int) < (s.size : Int) := by omega
  go_enter Tryz.func56, Tryz.ntmps56
  go_wp2_with fail
  go_ret
  exact ⟨ret_bool HF.out.symm, Below.refl _ _⟩
 ·have HT := Lib.hid (isTok_kind s.data.toList 2 (.inr rfl))
  have h16' : ¬ (16 : Int) < (s.size : Int) := by omega
  cases ha : allK s.data.toList with
  | error px =>
   obtain ⟨p, x⟩ := px
   have hx := err_code ha
   have hf : isTokV s.data.toList 2 = false := by unfold isTokV; rw [ha]
   have HF := Lib.hid hf
   have HA := Lib.hid ha
   have hx0 : (x == 0) = false := by rcases hx with rfl | rfl <;> rfl
   clear hf ha
   go_enter Tryz.func56, Tryz.ntmps56
   go_wp2_with fail
   refine (all_bad s p x _ (by omega) hg HA.out).mono ?_
   rintro e w2 ⟨rfl, hb2⟩
   go_wp2_with fail
   go_ret
   exact ⟨ret_bool (by rw [← HT.out, HF.out]), hb2⟩
  | ok ts =>
   have HA := Lib.hid ha
   obtain ⟨n, hn⟩ : ∃ n, ts.length = n := ⟨_, rfl⟩
   have HN := Lib.hid hn
   by_cases h1 : n = 1
   ·subst h1
    obtain ⟨t, rfl⟩ : ∃ t, ts = [t] := by
     match ts, hn with
     | [t], _ => exact ⟨t, rfl⟩
    have hf : isTokV s.data.toList 2 = (decide (t.kind = 2) && (t.text == s.data.toList)) := by unfold isTokV; rw [ha]
    have HF := Lib.hid hf
    clear hf ha hn
    have hf2 : ∀ w2 A, Row w2 A [t] → ∃ g o, A = some ⟨g, o, none⟩ ∧ w2.cell? ⟨g, o, none⟩ = some (.int .i64 t.kind) ∧ w2.cell? ⟨g, o + 1, none⟩ = some (.string ⟨t.text.toArray⟩) := fun w2 A hr => by
     obtain ⟨g, o, hA, d0, d1, _, _⟩ := hr.at_ (i := 0) (by simp)
     simp only [Nat.zero_mul, Nat.add_zero] at d0 d1
     exact ⟨g, o, hA, d0, d1⟩
    have HR := Lib.hid hf2
    clear hf2
    by_cases hkd : t.kind = 2
    ·have e1 : (t.kind == 2) = true := by simpa using hkd
     go_enter Tryz.func56, Tryz.ntmps56
     go_wp2_with fail
     refine (all_good' s [t] 1 HN.out _ (by omega) hg HA.out).mono ?_
     rintro e w2 ⟨A, c, rfl, hr, hb2⟩
     obtain ⟨g, o, rfl, d0, d1⟩ := HR.out _ _ hr
     clear hr
     go_wp2_with fail
     go_ret
     exact ⟨ret_bool (by rw [← HT.out, HF.out, data_list]; simp [hkd]), hb2⟩
    ·have e1 : (t.kind == 2) = false := by simpa using hkd
     go_enter Tryz.func56, Tryz.ntmps56
     go_wp2_with fail
     refine (all_good' s [t] 1 HN.out _ (by omega) hg HA.out).mono ?_
     rintro e w2 ⟨A, c, rfl, hr, hb2⟩
     obtain ⟨g, o, rfl, d0, d1⟩ := HR.out _ _ hr
     clear hr
     go_wp2_with fail
     go_ret
     exact ⟨ret_bool (by rw [← HT.out, HF.out]; simp [hkd]), hb2⟩
   ·have hf : isTokV s.data.toList 2 = false := by
     unfold isTokV; rw [ha]
     split
     ·rename_i t h
      have := Except.ok.inj h
      subst this
      exact absurd hn.symm h1
     ·rfl
    have HF := Lib.hid hf
    have hn1 : ((n : Int) == 1) = false := by simp; omega
    clear hf ha hn
    go_enter Tryz.func56, Tryz.ntmps56
    go_wp2_with fail
    refine (all_good' s ts n HN.out _ (by omega) hg HA.out).mono ?_
    rintro e w2 ⟨A, c, rfl, hr, hb2⟩
    clear hr
    go_wp2_with fail
    go_ret
    exact ⟨ret_bool (by rw [← HT.out, HF.out]), hb2⟩
theorem ELIn.below (l : List Te) {w w' : World} {X : Nat → Prop} {A : Option Addr} {i B : Nat} (h : ELIn w X l A i) (hb : Below B w w') (hB : w.heap.size ≤ B) : ELIn w' X l A i :=
 ELIn.keep l h fun g j hX hlt => ⟨hb.cell (p := ⟨g, j, none⟩) (by show g < B; omega), hX⟩
theorem ename_eq (s t : ByteArray) : (s.toList == t.toList) = decide (s = t) := by
 rw [Bool.eq_iff_iff, beq_iff_eq, decide_eq_true_eq]
 refine ⟨fun e => Classical.byContradiction fun h => ?_, fun e => by rw [e]⟩
 rw [data_list, data_list] at e
 exact h (byte_ext e)
set_option maxHeartbeats 1000000 in
theorem eun1_any (k n : Int) (s s0 : ByteArray) (A : Option Addr) (m c g : Nat) (w : World) (hc : w.cell? ⟨g, 2, none⟩ = some (.string s0)) :
  Calls Tryz.prog 87 #[.agg #[.int .i64 k, .int .i64 n, .string s, .slice A m c], .pointer (some ⟨g, 0, none⟩)] w fun e w' => e = .returned (.bool (decide (s0 = s))) ∧ Below w.heap.size w w' := by
 have hb : Below w.heap.size w (w.alloc (.cells #[.int .i64 k, .int .i64 n, .string s, .slice A m c] 24)) := (Below.refl _ w).alloc (Nat.le_refl _) _
 have hlt := cell_lt hc
 rw [← hb.cell (p := ⟨g, 2, none⟩) hlt] at hc
 have HE := Lib.hid (ename_eq s0 s)
 go_enter Tryz.func87, Tryz.ntmps87
 go_wp2_with fail
 go_ret
 refine ⟨ret_bool ?_, hb⟩
 first | exact HE.out | (rw [← HE.out]) | (rw [← HE.out]; rfl)

theorem ELIn.take (l : List Te) {w : World} {X : Nat → Prop} {A : Option Addr} (i : Nat) (h : ELIn w X l A 0) : ELIn w X (l.take i) A 0 :=
 ELIn.mk _ 0 fun j hj => by
  have hj2 : j < l.length := by rw [List.length_take] at hj; omega
  have := ELIn.at_ l h j hj2
  rw [List.getElem_take]
  exact this
set_option maxHeartbeats 1000000 in
theorem eidx_any (l : List Te) (s0 : ByteArray) (A : Option Addr) (m c g : Nat) (w : World) (hm : m = l.length) (hm2 : m ≤ 100) (hI : ELIn w Any l A 0) (hc : w.cell? ⟨g, 2, none⟩ = some (.string s0)) :
  Calls Tryz.prog 118 #[.slice A m c, .func (.func 87) #[] #[.pointer (some ⟨g, 0, none⟩)]] w fun e w' => (∃ r : Int, e = .returned (.int .i64 r) ∧ decide (0 ≤ r) = l.any fun u => decide (s0 = u.name)) ∧ Below w.heap.size w w' := by
 have hm1 : m ≤ l.length := by omega
 have hm3 : l.length ≤ m := by omega
 have HI := Lib.hid hI
 have HC := Lib.hid hc
 clear hm hI hc
 go_enter Tryz.func118, Tryz.ntmps118
 go_wp2_with fail
 go_loopw [8] (fun x wr => ∃ i : Nat, i ≤ m ∧ x = .int .i64 i ∧ Hid ((l.take i).any (fun u => decide (s0 = u.name)) = false) ∧ Below w.heap.size w wr) (fun x _ => m - (intOf x).toNat)
 case atStart => exact ⟨0, by omega, rfl, by exact rfl, Below.refl _ w⟩
 case round =>
  obtain ⟨i, hi, rfl, HQ, hbw⟩ := hrel
  have hcr : wr.cell? ⟨g, 2, none⟩ = some (.string s0) := (hbw.cell (p := ⟨g, 2, none⟩) (cell_lt HC.out)).trans HC.out
  by_cases hlt : i < m
  ·have hia : i < l.length := by omega
   obtain ⟨g', o, A', c', ⟨hA, _⟩, d0, d1, d2, d3, hIn⟩ := ELIn.at_ l (ELIn.below l HI.out hbw (Nat.le_refl _)) i hia
   subst hA
   rw [Nat.zero_add] at d0 d1 d2 d3
   have HS : Hid (∀ nm, nm = (l[i]'hia).name → (l.take (i + 1)).any (fun u => decide (s0 = u.name)) = ((l.take i).any (fun u => decide (s0 = u.name)) || decide (s0 = nm))) := Lib.hid fun nm h => by
    rw [List.take_succ_eq_append_getElem hia, List.any_append, h]; simp
   have HM : Hid (∀ nm, nm = (l[i]'hia).name → decide (s0 = nm) = true → l.any (fun u => decide (s0 = u.name)) = true) := Lib.hid fun nm h0 h => List.any_eq_true.2 ⟨l[i]'hia, List.getElem_mem hia, by rw [← h0]; exact h⟩
   obtain ⟨tr, hu⟩ : ∃ tr, tr = l[i]'hia := ⟨_, rfl⟩
   rw [← hu] at d0 d1 d2 d3 HS HM
   clear hu hIn
   obtain ⟨tk, tn, ts, tl⟩ := tr
   simp only [Te.kind, Te.n, Te.name, Te.parts] at d0 d1 d2 d3
   have HS := Lib.hid (HS.out ts rfl)
   have HM := Lib.hid (HM.out ts rfl)
   have HU := Lib.hid (eun1_any tk tn ts s0 A' tl.length (capF tl.length c') g wr hcr)
   clear hcr
   by_cases hq : s0 = ts
   ·rw [decide_eq_true hq] at HU HM
    have HM2 := Lib.hid (HM.out rfl)
    clear hq HM
    go_wp2_with fail
    refine HU.out.mono ?_
    rintro e w2 ⟨rfl, hb2⟩
    go_wp2_with fail
    go_ret
    exact ⟨⟨i, rfl, by rw [HM2.out]; simp; try omega⟩, hbw.trans (hb2.mono hbw.size)⟩
   ·rw [decide_eq_false hq] at HU HS
    clear hq
    go_wp2_with fail
    refine HU.out.mono ?_
    rintro e w2 ⟨rfl, hb2⟩
    go_wp2_with fail
    go_roundw
    case rel =>
     refine ⟨i + 1, by omega, by go_num, ?_, hbw.trans (hb2.mono hbw.size)⟩
     show _ = _
     rw [HS.out, HQ.out]; rfl
    case measure => simp [intOf]; omega
  ·have HT := Lib.hid (List.take_of_length_le (l := l) (i := i) (by omega))
   clear hcr
   go_wp2_with fail
   go_ret
   refine ⟨⟨-1, rfl, ?_⟩, hbw⟩
   have h := HQ.out
   rw [HT.out] at h
   rw [h]; rfl
theorem ehas_any (l : List Te) (s0 : ByteArray) (A : Option Addr) (m c g : Nat) (w : World) (hm : m = l.length) (hm2 : m ≤ 100) (hI : ELIn w Any l A 0) (hc : w.cell? ⟨g, 2, none⟩ = some (.string s0)) :
  Calls Tryz.prog 86 #[.slice A m c, .func (.func 87) #[] #[.pointer (some ⟨g, 0, none⟩)]] w fun e w' => e = .returned (.bool (l.any fun u => decide (s0 = u.name))) ∧ Below w.heap.size w w' := by
 have HX := Lib.hid (eidx_any l s0 A m c g w hm hm2 hI hc)
 clear hI hc hm
 go_enter Tryz.func86, Tryz.ntmps86
 go_wp2_with fail
 refine HX.out.mono ?_
 rintro e w2 ⟨⟨r, rfl, hr⟩, hb2⟩
 have HR := Lib.hid hr
 clear hr
 by_cases h0 : 0 ≤ r
 ·go_wp2_with fail
  go_ret
  exact ⟨ret_bool (by first | exact HR.out | (rw [← HR.out]; simp [h0])), hb2⟩
 ·go_wp2_with fail
  go_ret
  exact ⟨ret_bool (by first | exact HR.out | (rw [← HR.out]; simp [h0])), hb2⟩

set_option maxHeartbeats 1000000 in
theorem eunlike_any (l : List Te) (A : Option Addr) (m c : Nat) (w : World) (hm : m = l.length) (hm2 : m ≤ 100) (hmc : m ≤ c) (hI : ELIn w Any l A 0) :
  Calls Tryz.prog 57 #[.slice A m c] w fun e w' => e = .returned (.bool (unlikeE l)) ∧ Below w.heap.size w w' := by
 have hm1 : m ≤ l.length := by omega
 have hm3 : l.length ≤ m := by omega
 have HI := Lib.hid hI
 clear hm hI
 go_enter Tryz.func57, Tryz.ntmps57
 go_wp2_with fail
 go_loopw [7] (fun x wr => ∃ i : Nat, i ≤ m ∧ x = .int .i64 i ∧ Hid (unlikeE l = unlikeF (l.take i) (l.drop i)) ∧ Below w.heap.size w wr) (fun x _ => m - (intOf x).toNat)
 case atStart => exact ⟨0, by omega, rfl, by exact rfl, Below.refl _ w⟩
 case round =>
  obtain ⟨i, hi, rfl, HQ, hbw⟩ := hrel
  have hbs := hbw.size
  by_cases hlt : i < m
  ·have hia : i < l.length := by omega
   have hIr := ELIn.below l HI.out hbw (Nat.le_refl _)
   obtain ⟨g', o, A', c', ⟨hA, _⟩, d0, d1, d2, d3, hIn⟩ := ELIn.at_ l hIr i hia
   subst hA
   rw [Nat.zero_add] at d0 d1 d2 d3
   have HS : Hid (∀ nm, nm = (l[i]'hia).name → unlikeF (l.take i) (l.drop i) = (!((l.take i).any fun u => decide (nm = u.name)) && unlikeF (l.take (i + 1)) (l.drop (i + 1)))) := Lib.hid fun nm h => by
    rw [List.drop_eq_getElem_cons hia, unlikeF, h, List.take_succ_eq_append_getElem hia]
   have HT := Lib.hid (ELIn.take l i hIr)
   obtain ⟨tr, hu⟩ : ∃ tr, tr = l[i]'hia := ⟨_, rfl⟩
   rw [← hu] at d0 d1 d2 d3 HS
   clear hu hIn hIr
   obtain ⟨tk, tn, ts, tl⟩ := tr
   simp only [Te.kind, Te.n, Te.name, Te.parts] at d0 d1 d2 d3
   have HS := Lib.hid (HS.out ts rfl)
   have hb1 : Below wr.heap.size wr (wr.alloc (.cells #[.int .i64 tk, .int .i64 tn, .string ts, .slice A' tl.length (capF tl.length c')] 24)) := (Below.refl _ wr).alloc (Nat.le_refl _) _
   have hL := Lies.new wr 24 #[.int .i64 tk, .int .i64 tn, .string ts, .slice A' tl.length (capF tl.length c')]
   have HH := Lib.hid (ehas_any (l.take i) ts (some ⟨g', o, none⟩) i c wr.heap.size _ (by rw [List.length_take]; omega) (by omega) (ELIn.below _ HT.out hb1 (Nat.le_refl _)) (hL.cell 2))
   have hmk : ∀ w0, (Instr.makeFunc (.func 87) #[] #[.pointer (some ⟨wr.heap.size, 0, none⟩)]).run Tryz.prog w0 = .ok (.func (.func 87) #[] #[.pointer (some ⟨wr.heap.size, 0, none⟩)]) w0 := fun _ => rfl
   clear hL
   cases hq : (l.take i).any fun u => decide (ts = u.name)
   ·rw [hq] at HH HS
    clear hq
    go_wp2_with fail
    refine HH.out.mono ?_
    rintro e w2 ⟨rfl, hb2⟩
    go_wp2_with fail
    go_roundw
    case rel =>
     refine ⟨i + 1, by omega, by go_num, ?_, ebelow_al hbw hb2⟩
     show _ = _
     rw [HQ.out, HS.out]; rfl
    case measure => simp [intOf]; omega
   ·rw [hq] at HH HS
    clear hq
    go_wp2_with fail
    refine HH.out.mono ?_
    rintro e w2 ⟨rfl, hb2⟩
    go_wp2_with fail
    go_ret
    exact ⟨ret_bool (by rw [HQ.out, HS.out]; rfl), ebelow_al hbw hb2⟩
  ·go_wp2_with fail
   go_ret
   exact ⟨ret_bool (by rw [HQ.out, List.drop_eq_nil_of_le (by omega), unlikeF]), hbw⟩
theorem Lies.four' {w : World} {g : Nat} {t : TypeId} {a b c d : Value} (h : Lies w g t #[a, b, c, d]) :
  w.cell? ⟨g, 0, none⟩ = some a ∧ w.cell? ⟨g, 1, none⟩ = some b ∧ w.cell? ⟨g, 2, none⟩ = some c ∧ w.cell? ⟨g, 3, none⟩ = some d :=
 ⟨h.cell 0, h.cell 1, h.cell 2, h.cell 3⟩
structure Caught (W : World) (G : Nat) (k n : Int) (s : ByteArray) (A : Option Addr) (m c : Nat) (free bound : Int) : Prop where
 t : Lies W G 24 #[.int .i64 k, .int .i64 n, .string s, .slice A m c]
 f : Lies W (G + 1) 3 #[.int .i64 free]
 b : Lies W (G + 2) 3 #[.int .i64 bound]
theorem Caught.below {W W' : World} {G : Nat} {k n : Int} {s : ByteArray} {A : Option Addr} {m c : Nat} {free bound : Int} (h : Caught W G k n s A m c free bound) (hb : Below W.heap.size W W') : Caught W' G k n s A m c free bound :=
 ⟨h.t.below hb h.t.lt, h.f.below hb h.f.lt, h.b.below hb h.b.lt⟩
theorem Caught.old {W : World} {G : Nat} {k n : Int} {s : ByteArray} {A : Option Addr} {m c : Nat} {free bound : Int} (h : Caught W G k n s A m c free bound) (o : Obj) : Caught (W.alloc o) G k n s A m c free bound :=
 ⟨h.t.old o, h.f.old o, h.b.old o⟩
def partsE (k : Int) (l : List Te) (free bound least most : Int) : Bool := decide (least ≤ (l.length : Int)) && (decide ((l.length : Int) ≤ most) && mayEL k 0 l free bound)
set_option maxHeartbeats 2000000 in
theorem emayp_any (k n : Int) (s : ByteArray) (l : List Te) (A : Option Addr) (m c G : Nat) (free bound least most more : Int) (w : World) (hm : m = l.length) (hI : ELIn w Any l A 0) (hml : m ≤ 140737488351232)
  (hg : Signs w) (hC : Caught w G k n s A m c free bound) (hb0 : 0 ≤ bound) (hb1 : bound ≤ 1000000) (hm0 : 0 ≤ more) (hm8 : more ≤ 8)
  (IH : ∀ (t' : Te) (A' : Option Addr) (c' : Nat) (w' : World), t' ∈ l → EIn w' Any t' A' → Signs w' → Calls Tryz.prog 34 #[ev t' A' c', .int .i64 free, .int .i64 (bound + more)] w' fun e w'' => e = .returned (.bool (mayE t' free (bound + more))) ∧ Below w'.heap.size w' w'') :
  Calls Tryz.prog 53 #[.int .i64 least, .int .i64 most, .int .i64 more, .pointer (some ⟨G, 0, none⟩), .pointer (some ⟨G + 1, 0, none⟩), .pointer (some ⟨G + 2, 0, none⟩)] w fun e w' => e = .returned (.bool (partsE k l free (bound + more) least most)) ∧ Below w.heap.size w w' := by
 have hm1 : m ≤ l.length := by omega
 have hm3 : l.length ≤ m := by omega
 have c3 := hC.t.cell 3
 simp at c3
 have HI := Lib.hid hI
 have HIH := Lib.hid IH
 have HP : Hid (partsE k l free (bound + more) least most = (decide (least ≤ (m : Int)) && (decide ((m : Int) ≤ most) && mayEL k 0 l free (bound + more)))) := by
  show _ = _
  rw [hm]; rfl
 clear hm hI IH
 by_cases h1 : (m : Int) < least
 ·go_enter Tryz.func53, Tryz.ntmps53
  go_wp2_with fail
  go_ret
  refine ⟨ret_bool ?_, Below.refl _ _⟩
  rw [HP.out, decide_eq_false (by omega)]; rfl
 ·by_cases h2 : most < (m : Int)
  ·go_enter Tryz.func53, Tryz.ntmps53
   go_wp2_with fail
   go_ret
   refine ⟨ret_bool ?_, Below.refl _ _⟩
   rw [HP.out, decide_eq_true (by omega : least ≤ (m : Int)), decide_eq_false (by omega)]; rfl
  ·have HE : Hid (partsE k l free (bound + more) least most = mayEL k 0 l free (bound + more)) := by
    show _ = _
    rw [HP.out, decide_eq_true (by omega : least ≤ (m : Int)), decide_eq_true (by omega : (m : Int) ≤ most)]; rfl
   have hw : IntKind.i64.wrap (bound + more) = bound + more := IntWalk.i64_in _ (by omega)
   clear HP
   go_enter Tryz.func53, Tryz.ntmps53
   go_wp2_with fail
   go_loopw [27] (fun x wr => ∃ i : Nat, i ≤ m ∧ x = .int .i64 i ∧ Hid (mayEL k 0 l free (bound + more) = mayEL k i (l.drop i) free (bound + more)) ∧ Caught wr G k n s A m c free bound ∧ Below w.heap.size w wr) (fun x _ => m - (intOf x).toNat)
   case atStart => exact ⟨0, by omega, rfl, by exact rfl, hC, Below.refl _ _⟩
   case round =>
    obtain ⟨i, hi, rfl, HQ, hCr, hbw⟩ := hrel
    have hbs := hbw.size
    by_cases hlt : i < m
    ·have hia : i < l.length := by omega
     obtain ⟨g', o, A', c', ⟨hA, _⟩, d0, d1, d2, d3, hIn⟩ := ELIn.at_ l (ELIn.below l HI.out hbw (Nat.le_refl _)) i hia
     subst hA
     rw [Nat.zero_add] at d0 d1 d2 d3
     have hmem := List.getElem_mem hia
     have HS : Hid (mayEL k i (l.drop i) free (bound + more) = (standsE k i (l[i]'hia).kind && (mayE (l[i]'hia) free (bound + more) && mayEL k (i + 1) (l.drop (i + 1)) free (bound + more)))) := by
      show _ = _
      rw [List.drop_eq_getElem_cons hia, mayEL]
     obtain ⟨tr, hu⟩ : ∃ tr, tr = l[i]'hia := ⟨_, rfl⟩
     rw [← hu] at d0 d1 d2 d3 HS hmem hIn
     clear hu c3
     obtain ⟨tk, tn, ts, tl⟩ := tr
     simp only [Te.kind, Te.n, Te.name, Te.parts] at d0 d1 d2 d3 HS
     obtain ⟨O, hO⟩ : ∃ O, O = Obj.cells #[.int .i64 tk, .int .i64 tn, .string ts, .slice A' tl.length (capF tl.length c')] 24 := ⟨_, rfl⟩
     have hCO := hCr.old O
     rw [hO] at hCO
     obtain ⟨b0, b1, b2, b3⟩ := hCO.t.four'
     have HST := Lib.hid (estands_any k n tk s (some ⟨g', o, none⟩) m c i (wr.alloc (.cells #[.int .i64 tk, .int .i64 tn, .string ts, .slice A' tl.length (capF tl.length c')] 24)))
     have hgr : Signs wr := hg.below hbw hg.pos
     clear hO
     cases hst : standsE k i tk
     ·rw [hst] at HST HS
      clear hst
      go_wp2_with fail
      refine HST.out.mono ?_
      rintro e w3 ⟨rfl, hb3⟩
      go_wp2_with fail
      go_ret
      exact ⟨ret_bool (by rw [HE.out, HQ.out, HS.out]; rfl), ebelow_al hbw hb3⟩
     ·rw [hst] at HST HS
      clear hst
      go_wp2_with fail
      refine HST.out.mono ?_
      rintro e w3 ⟨rfl, hb3⟩
      have hb3w := ebelow_al hbw hb3
      have hbr : Below wr.heap.size wr w3 := ((Below.refl _ wr).alloc (Nat.le_refl _) _).trans (hb3.mono (by simp))
      have hn3 := (Lies.new wr 24 #[.int .i64 tk, .int .i64 tn, .string ts, .slice A' tl.length (capF tl.length c')]).below hb3 (by simp)
      obtain ⟨n0, n1, n2, n3⟩ := hn3.four'
      have hC3 := hCO.below hb3
      have f0 := hC3.f.cell 0
      have f1 := hC3.b.cell 0
      simp at f0 f1
      have HM := Lib.hid (HIH.out (.node tk tn ts tl) A' c' w3 hmem (EIn.below _ hIn hbr (Nat.le_refl _)) (hgr.below hbr hgr.pos))
      clear d0 d1 d2 d3 b0 b1 b2 b3 hn3 hb3 hCO hCr
      cases hmt : mayE (.node tk tn ts tl) free (bound + more)
      ·rw [hmt] at HM HS
       clear hmt
       go_wp2_with fail
       refine HM.out.mono ?_
       rintro e w4 ⟨rfl, hb4⟩
       go_wp2_with fail
       go_ret
       exact ⟨ret_bool (by rw [HE.out, HQ.out, HS.out]; rfl), hb3w.trans (hb4.mono hb3w.size)⟩
      ·rw [hmt] at HM HS
       clear hmt
       go_wp2_with fail
       refine HM.out.mono ?_
       rintro e w4 ⟨rfl, hb4⟩
       go_wp2_with fail
       go_roundw
       case rel =>
        refine ⟨i + 1, by omega, by go_num, ?_, hC3.below hb4, hb3w.trans (hb4.mono hb3w.size)⟩
        show _ = _
        rw [HQ.out, HS.out]; rfl
       case measure => simp [intOf]; omega
    ·clear c3
     go_wp2_with fail
     go_ret
     obtain rfl : i = m := by omega
     exact ⟨ret_bool (by rw [HE.out, HQ.out, List.drop_eq_nil_of_le (by omega), mayEL]), hbw⟩
end Lx
end Go.Proofs.YtiocmiikghcoaaaGreatDoor
namespace Go.Proofs.YtiocmiikghcoaaaGreatDoor
namespace Lx
set_option maxRecDepth 100000
theorem mayE_1 (n : Int) (s : ByteArray) (l : List Te) (free bound : Int) : mayE (.node 1 n s l) free bound = (s.data.toList == [] && (decide (0 ≤ n) && (decide (n - bound < free) && partsE 1 l free (bound + 0) 0 0))) := by
 rw [Bool.eq_iff_iff]
 simp [mayE, headE, moreE, partsE]
 grind
theorem mayE_2 (n : Int) (s : ByteArray) (l : List Te) (free bound : Int) : mayE (.node 2 n s l) free bound = (blankE n s.data.toList && partsE 2 l free (bound + 1) 1 1) := by
 rw [Bool.eq_iff_iff]
 simp [mayE, headE, moreE, partsE, blankE]
 grind
theorem mayE_3 (n : Int) (s : ByteArray) (l : List Te) (free bound : Int) : mayE (.node 3 n s l) free bound = (blankE n s.data.toList && partsE 3 l free (bound + 0) 2 2) := by
 rw [Bool.eq_iff_iff]
 simp [mayE, headE, moreE, partsE, blankE]
 grind
theorem mayE_4 (n : Int) (s : ByteArray) (l : List Te) (free bound : Int) : mayE (.node 4 n s l) free bound = (conV s.data.toList && (decide (n = 0) && partsE 4 l free (bound + 0) 0 8)) := by
 rw [Bool.eq_iff_iff]
 simp [mayE, headE, moreE, partsE]
 grind
theorem mayE_5 (n : Int) (s : ByteArray) (l : List Te) (free bound : Int) : mayE (.node 5 n s l) free bound = (blankE n s.data.toList && (partsE 5 l free (bound + 0) 2 9 && unlikeE (l.drop 1))) := by
 rw [Bool.eq_iff_iff]
 simp [mayE, headE, moreE, partsE, blankE]
 grind
theorem mayE_6 (n : Int) (s : ByteArray) (l : List Te) (free bound : Int) : mayE (.node 6 n s l) free bound = (conV s.data.toList && (decide (0 ≤ n) && (decide (n ≤ 8) && partsE 6 l free (bound + n) 1 1))) := by
 rw [Bool.eq_iff_iff]
 simp [mayE, headE, moreE, partsE]
 grind
theorem mayE_7 (n : Int) (s : ByteArray) (l : List Te) (free bound : Int) : mayE (.node 7 n s l) free bound = (s.data.toList == [] && partsE 7 l free (bound + 0) 0 0) := by
 rw [Bool.eq_iff_iff]
 simp [mayE, headE, moreE, partsE]
 grind
theorem mayE_8 (n : Int) (s : ByteArray) (l : List Te) (free bound : Int) : mayE (.node 8 n s l) free bound = (opV s.data.toList && (decide (n = 0) && partsE 8 l free (bound + 0) 2 2)) := by
 rw [Bool.eq_iff_iff]
 simp [mayE, headE, moreE, partsE]
 grind
theorem mayE_9 (n : Int) (s : ByteArray) (l : List Te) (free bound : Int) : mayE (.node 9 n s l) free bound = (blankE n s.data.toList && partsE 9 l free (bound + 0) 0 0) := by
 rw [Bool.eq_iff_iff]
 simp [mayE, headE, moreE, partsE, blankE]
 grind
theorem mayE_no {k : Int} (h : k < 1 ∨ 9 < k) (n : Int) (s : ByteArray) (l : List Te) (free bound : Int) : mayE (.node k n s l) free bound = false := by
 have e : headE k n s.data.toList l.length free bound = false := by
  unfold headE
  rw [if_neg (by omega), if_neg (by omega), if_neg (by omega), if_neg (by omega), if_neg (by omega), if_neg (by omega), if_neg (by omega), if_neg (by omega), if_neg (by omega)]
 rw [mayE, e]; rfl
end Lx
end Go.Proofs.YtiocmiikghcoaaaGreatDoor
