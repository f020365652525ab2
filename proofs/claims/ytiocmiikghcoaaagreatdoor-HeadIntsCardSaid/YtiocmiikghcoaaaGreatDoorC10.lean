/-
  Texts that lie one behind the other: R7E R7F RcD.
-/
import Derived.Test.YtiocmiikghcoaaaGreatDoorC1
import Derived.Test.YtiocmiikghcoaaaGreatDoorC8
import Derived.Test.YtiocmiikghcoaaaGreatDoorC9
import Derived.Test.YtiocmiikghcoaaaGreatDoorC7
import Derived.Test.YtiocmiikghcoaaaGreatDoorC3
import Derived.Maps.AppendAt
import Derived.Deep.RegionHeld3
import Derived.Deep.DrawnRows
import Derived.Deep.AppendLies
namespace Go.Proofs.YtiocmiikghcoaaaGreatDoor
open Go.RowKit
namespace Lx
set_option maxRecDepth 100000
set_option maxHeartbeats 8000000 in
theorem term7_k1 {d : Nat} (_ih : Term7 d) (n a : Int) (s : ByteArray) (l : List Tr) (A : Option Addr) (m c : Nat) (b : List ByteArray) (Ab : Option Addr) (mb cb : Nat) (w : World) (_hm : m = l.length) (_hm9 : m ≤ 100) (hd : depthL l ≤ d) (hok : okL l) (_hss : s.size ≤ 140737488351232) (hmb : mb = b.length) (hbl : mb + 9 * (d + 1) ≤ 70000) (hI : LIn w Any l A 0) (hB : SIn w Any b Ab) (hAb : Ab = none → cb = 0) :
  Calls Tryz.prog 52 #[.agg #[.int .i64 1, .string s, .int .i64 n, .int .i64 a, .slice A m c], .slice Ab mb cb] w (GivesE (termT b (.node 1 s n a l)) w) := by
 have HI := Lib.hid hI
 have HOK := Lib.hid hok
 have HB := Lib.hid hB
 have HAB := Lib.hid hAb
 have HMB := Lib.hid hmb
 have hbl' := hbl
 clear hI hok hB hAb hmb
 have hb0 : Below w.heap.size w ((w.alloc (.cells #[.int .i64 1, .string s, .int .i64 n, .int .i64 a, .slice A m c] 49)).alloc (.cells #[.int .i64 0, .int .i64 0, .string ⟨#[]⟩, .slice none 0 0] 24)) := ((Below.refl _ w).alloc (Nat.le_refl _) _).alloc (by simp) _
 have hLt : Lies ((w.alloc (.cells #[.int .i64 1, .string s, .int .i64 n, .int .i64 a, .slice A m c] 49)).alloc (.cells #[.int .i64 0, .int .i64 0, .string ⟨#[]⟩, .slice none 0 0] 24)) w.heap.size 49 #[.int .i64 1, .string s, .int .i64 n, .int .i64 a, .slice A m c] := (Lies.new w _ _).old _
 have hLr : Lies ((w.alloc (.cells #[.int .i64 1, .string s, .int .i64 n, .int .i64 a, .slice A m c] 49)).alloc (.cells #[.int .i64 0, .int .i64 0, .string ⟨#[]⟩, .slice none 0 0] 24)) (w.heap.size + 1) 24 #[.int .i64 0, .int .i64 0, .string ⟨#[]⟩, .slice none 0 0] := by simpa using Lies.new (w.alloc (.cells #[.int .i64 1, .string s, .int .i64 n, .int .i64 a, .slice A m c] 49)) 24 #[.int .i64 0, .int .i64 0, .string ⟨#[]⟩, .slice none 0 0]
 have hBW : w.heap.size + 2 ≤ ((w.alloc (.cells #[.int .i64 1, .string s, .int .i64 n, .int .i64 a, .slice A m c] 49)).alloc (.cells #[.int .i64 0, .int .i64 0, .string ⟨#[]⟩, .slice none 0 0] 24)).heap.size := by simp
 have HF := Lib.hid (find7_any b s Ab mb cb ((w.alloc (.cells #[.int .i64 1, .string s, .int .i64 n, .int .i64 a, .slice A m c] 49)).alloc (.cells #[.int .i64 0, .int .i64 0, .string ⟨#[]⟩, .slice none 0 0] 24)) HMB.out (by omega) (SIn.below HB.out hb0 (Nat.le_refl _)))
 have HT2 : Hid (termT b (.node 1 s n a l) = var7 (findN b s)) := Lib.hid (by rw [termT, if_pos rfl])
 have hfn := findN_le b s
 rw [← HMB.out] at hfn
 clear _hm
 go_enter Tryz.func52, Tryz.ntmps52
 go_upto_region 3 with fail
 generalize ((w.alloc (.cells #[.int .i64 1, .string s, .int .i64 n, .int .i64 a, .slice A m c] 49)).alloc (.cells #[.int .i64 0, .int .i64 0, .string ⟨#[]⟩, .slice none 0 0] 24)) = W0 at *
 have e1 := hLt.five.1.2.1
 go_wp2_with fail
 refine HF.out.mono ?_
 rintro e w2 ⟨rfl, hb2⟩
 have hbw := hb0.trans (hb2.mono hb0.size)
 have lz := hLr.below hb2 hLr.lt
 obtain ⟨⟨x0, x1, x2, x3⟩, f0, f1, f2, f3⟩ := lz.four
 obtain ⟨q, hq⟩ : ∃ q, q = findN b s := ⟨_, rfl⟩
 rw [← hq] at hfn HT2 ⊢
 clear hq HF
 go_wp2_with fail
 refine bodyPost_ret (res_term (p := 4) Tryz.results52 rfl (lz.all _ _ _ _)) rfl ?_
 rw [HT2.out]
 exact ⟨none, 0, rfl, ein_mk (by decide) (by omega) (by omega) (by simp) (by rw [ELIn]; trivial), Below.all hbw (by omega) _ _ _ _⟩
set_option maxHeartbeats 8000000 in
theorem term7_k9 {d : Nat} (_ih : Term7 d) (n a : Int) (s : ByteArray) (l : List Tr) (A : Option Addr) (m c : Nat) (b : List ByteArray) (Ab : Option Addr) (mb cb : Nat) (w : World) (_hm : m = l.length) (_hm9 : m ≤ 100) (hn0 : 0 ≤ n) (hn1 : n < 1000000000000000000) (_hd : depthL l ≤ d) (hok : okL l) (_hss : s.size ≤ 140737488351232) (hmb : mb = b.length) (hbl : mb + 9 * (d + 1) ≤ 70000) (hI : LIn w Any l A 0) (hB : SIn w Any b Ab) (hAb : Ab = none → cb = 0) :
  Calls Tryz.prog 52 #[.agg #[.int .i64 9, .string s, .int .i64 n, .int .i64 a, .slice A m c], .slice Ab mb cb] w (GivesE (termT b (.node 9 s n a l)) w) := by
 have HI := Lib.hid hI
 have HOK := Lib.hid hok
 have HB := Lib.hid hB
 have HAB := Lib.hid hAb
 have HMB := Lib.hid hmb
 have hbl' := hbl
 clear hI hok hB hAb hmb
 have hb0 : Below w.heap.size w ((w.alloc (.cells #[.int .i64 9, .string s, .int .i64 n, .int .i64 a, .slice A m c] 49)).alloc (.cells #[.int .i64 0, .int .i64 0, .string ⟨#[]⟩, .slice none 0 0] 24)) := ((Below.refl _ w).alloc (Nat.le_refl _) _).alloc (by simp) _
 have hLt : Lies ((w.alloc (.cells #[.int .i64 9, .string s, .int .i64 n, .int .i64 a, .slice A m c] 49)).alloc (.cells #[.int .i64 0, .int .i64 0, .string ⟨#[]⟩, .slice none 0 0] 24)) w.heap.size 49 #[.int .i64 9, .string s, .int .i64 n, .int .i64 a, .slice A m c] := (Lies.new w _ _).old _
 have hLr : Lies ((w.alloc (.cells #[.int .i64 9, .string s, .int .i64 n, .int .i64 a, .slice A m c] 49)).alloc (.cells #[.int .i64 0, .int .i64 0, .string ⟨#[]⟩, .slice none 0 0] 24)) (w.heap.size + 1) 24 #[.int .i64 0, .int .i64 0, .string ⟨#[]⟩, .slice none 0 0] := by simpa using Lies.new (w.alloc (.cells #[.int .i64 9, .string s, .int .i64 n, .int .i64 a, .slice A m c] 49)) 24 #[.int .i64 0, .int .i64 0, .string ⟨#[]⟩, .slice none 0 0]
 have hBW : w.heap.size + 2 ≤ ((w.alloc (.cells #[.int .i64 9, .string s, .int .i64 n, .int .i64 a, .slice A m c] 49)).alloc (.cells #[.int .i64 0, .int .i64 0, .string ⟨#[]⟩, .slice none 0 0] 24)).heap.size := by simp
 have HT2 : Hid (termT b (.node 9 s n a l) = .node 7 n ⟨#[]⟩ []) := Lib.hid (by
  rw [termT, if_neg (by decide), if_neg (by decide), if_neg (by decide), if_neg (by decide), if_neg (by decide), if_neg (by decide), if_pos rfl])
 clear _hm
 go_enter Tryz.func52, Tryz.ntmps52
 go_upto_region 20 with fail
 generalize ((w.alloc (.cells #[.int .i64 9, .string s, .int .i64 n, .int .i64 a, .slice A m c] 49)).alloc (.cells #[.int .i64 0, .int .i64 0, .string ⟨#[]⟩, .slice none 0 0] 24)) = W0 at *
 have e1 := hLt.five.1.2.2.1
 obtain ⟨⟨x0, x1, x2, x3⟩, f0, f1, f2, f3⟩ := hLr.four
 go_wp2_with fail
 refine bodyPost_ret (res_term (p := 4) Tryz.results52 rfl (hLr.all _ _ _ _)) rfl ?_
 rw [HT2.out]
 exact ⟨none, 0, rfl, ein_mk (by decide) (by omega) (by omega) (by simp) (by rw [ELIn]; trivial), Below.all hb0 (by omega) _ _ _ _⟩
set_option maxHeartbeats 8000000 in
theorem term7_k8 {d : Nat} (ih : Term7 d) (n a : Int) (s : ByteArray) (l : List Tr) (A : Option Addr) (m c : Nat) (b : List ByteArray) (Ab : Option Addr) (mb cb : Nat) (w : World) (hm : m = l.length) (hn : n + 1 = (l.length : Int)) (h0 : 0 ≤ n) (hm9 : m ≤ 9) (hd : depthL l ≤ d) (hok : okL l) (hss : s.size ≤ 140737488351232) (hmb : mb = b.length) (hbl : mb + 9 * (d + 1) ≤ 70000) (hI : LIn w Any l A 0) (hB : SIn w Any b Ab) (hAb : Ab = none → cb = 0) :
  Calls Tryz.prog 52 #[.agg #[.int .i64 8, .string s, .int .i64 n, .int .i64 a, .slice A m c], .slice Ab mb cb] w (GivesE (termT b (.node 8 s n a l)) w) := by
 have HI := Lib.hid hI
 have HOK := Lib.hid hok
 have HB := Lib.hid hB
 have HAB := Lib.hid hAb
 have HMB := Lib.hid hmb
 have hbl' := hbl
 clear hI hok hB hAb hmb
 obtain ⟨i, rfl⟩ : ∃ i : Nat, n = (i : Int) := ⟨n.toNat, by omega⟩
 have him : i < m := by omega
 have him2 : m ≤ i + 1 := by omega
 have hil : i < l.length := by omega
 have hml : m ≤ l.length := by omega
 have hb0 : Below w.heap.size w ((w.alloc (.cells #[.int .i64 8, .string s, .int .i64 (i : Int), .int .i64 a, .slice A m c] 49)).alloc (.cells #[.int .i64 0, .int .i64 0, .string ⟨#[]⟩, .slice none 0 0] 24)) := ((Below.refl _ w).alloc (Nat.le_refl _) _).alloc (by simp) _
 have hLt : Lies ((w.alloc (.cells #[.int .i64 8, .string s, .int .i64 (i : Int), .int .i64 a, .slice A m c] 49)).alloc (.cells #[.int .i64 0, .int .i64 0, .string ⟨#[]⟩, .slice none 0 0] 24)) w.heap.size 49 #[.int .i64 8, .string s, .int .i64 (i : Int), .int .i64 a, .slice A m c] := (Lies.new w _ _).old _
 have hLr : Lies ((w.alloc (.cells #[.int .i64 8, .string s, .int .i64 (i : Int), .int .i64 a, .slice A m c] 49)).alloc (.cells #[.int .i64 0, .int .i64 0, .string ⟨#[]⟩, .slice none 0 0] 24)) (w.heap.size + 1) 24 #[.int .i64 0, .int .i64 0, .string ⟨#[]⟩, .slice none 0 0] := by simpa using Lies.new (w.alloc (.cells #[.int .i64 8, .string s, .int .i64 (i : Int), .int .i64 a, .slice A m c] 49)) 24 #[.int .i64 0, .int .i64 0, .string ⟨#[]⟩, .slice none 0 0]
 have hBW : w.heap.size + 2 ≤ ((w.alloc (.cells #[.int .i64 8, .string s, .int .i64 (i : Int), .int .i64 a, .slice A m c] 49)).alloc (.cells #[.int .i64 0, .int .i64 0, .string ⟨#[]⟩, .slice none 0 0] 24)).heap.size := by simp
 have HV : Hid (((varsN (i : Int) l).length : Int) = (i : Int)) := Lib.hid (varsN_len l _ h0 (by omega))
 have HVA : Hid (∀ (q : Nat) (hq : (q : Int) < (i : Int)) (hl : q < l.length), (varsN (i : Int) l).take (q + 1) = (varsN (i : Int) l).take q ++ [(l[q]'hl).name]) := Lib.hid (varsN_take l _ h0)
 have HT2 : Hid (∀ hp : i < l.length, termT b (.node 8 s (i : Int) a l) = .node 6 (i : Int) s [termT (b ++ varsN (i : Int) l) (l[i]'hp)]) := Lib.hid (fun hp => by
  rw [termT, if_neg (by decide), if_neg (by decide), if_neg (by decide), if_neg (by decide), if_neg (by decide), if_pos rfl]
  rw [show ((i : Int)).toNat = i from by omega, termL_at _ _ i hp])
 have hmb2 := HMB.out
 clear hm hn h0
 go_enter Tryz.func52, Tryz.ntmps52
 go_upto_region 14 with fail
 generalize ((w.alloc (.cells #[.int .i64 8, .string s, .int .i64 (i : Int), .int .i64 a, .slice A m c] 49)).alloc (.cells #[.int .i64 0, .int .i64 0, .string ⟨#[]⟩, .slice none 0 0] 24)) = W0 at *
 have e2 := hLt.five.1.2.2.1
 clear hmb2
 go_wp2_with fail
 go_loopw [1, 6] (fun v x wr => ∃ (q : Nat) (A2 : Option Addr) (m2 c2 : Nat), q ≤ i ∧ x = .int .i64 q ∧ v = .slice A2 m2 c2 ∧ m2 = mb + q ∧ Hid (SIn wr Any (b ++ (varsN (i : Int) l).take q) A2 ∧ (A2 = none → c2 = 0)) ∧ Lies wr w.heap.size 49 #[.int .i64 8, .string s, .int .i64 (i : Int), .int .i64 a, .slice A m c] ∧ Lies wr (w.heap.size + 1) 24 #[.int .i64 0, .int .i64 0, .string ⟨#[]⟩, .slice none 0 0] ∧ W0.heap.size ≤ wr.heap.size ∧ Below w.heap.size w wr) (fun _ x _ => i - (intOf x).toNat)
 case atStart => exact ⟨0, Ab, mb, cb, by omega, rfl, rfl, rfl, Lib.hid ⟨by simpa using SIn.any (SIn.below HB.out hb0 (Nat.le_refl _)), HAB.out⟩, hLt, hLr, Nat.le_refl _, hb0⟩
 case round =>
  clear e2
  obtain ⟨q, A2, m2, c2, hq, rfl, rfl, hm2, HS, hL1, hLr1, hsz1, hb1⟩ := hrel
  have hbs := hb1.size
  have e2 := hL1.five.1.2.2.1
  by_cases hlt : (q : Int) < (i : Int)
  ·have hqa : q < l.length := by omega
   have hqm : q < m := by omega
   obtain ⟨g, o, A', c', ⟨hA, _⟩, d0, d1, d2, d3, d4, _⟩ := LIn.at_ l (LIn.keep l HI.out fun g j _ h => ⟨hb1.cell (p := ⟨g, j, none⟩) h, trivial⟩) q hqa
   subst hA
   simp only [Nat.zero_add] at d1
   have HN1 : Hid ((varsN (i : Int) l).take (q + 1) = (varsN (i : Int) l).take q ++ [(l[q]'hqa).name]) := Lib.hid (HVA.out q hlt hqa)
   obtain ⟨x, hx⟩ : ∃ x, x = (l[q]'hqa).name := ⟨_, rfl⟩
   rw [← hx] at d1 HN1
   clear hx d0 d2 d3 d4
   have e4 := hL1.five.1.2.2.2.2
   have hvl : ((varsN (i : Int) l).take q).length = q := by have := HV.out; rw [List.length_take]; omega
   have HC := Lib.hid (with7_any (b ++ (varsN (i : Int) l).take q) x A2 m2 c2 wr (by rw [List.length_append, hvl, ← HMB.out]; exact hm2) (by omega) HS.out.1 HS.out.2)
   have HL9 : Hid (((b ++ (varsN (i : Int) l).take q) ++ [x]).length = mb + (q + 1)) := Lib.hid (by rw [List.length_append, List.length_append, hvl, List.length_singleton, HMB.out]; omega)
   have HQ9 : Hid ((b ++ (varsN (i : Int) l).take q) ++ [x] = b ++ (varsN (i : Int) l).take (q + 1)) := Lib.hid (by rw [HN1.out, List.append_assoc])
   clear hvl hm2
   go_wp2_with fail
   refine HC.out.mono ?_
   rintro e w2 ⟨A3, c3, rfl, hS3, hA3, hb3⟩
   have hL3 := hL1.below hb3 hL1.lt
   have hLr3 := hLr1.below hb3 hLr1.lt
   have hsz3 := Nat.le_trans hsz1 hb3.size
   have hbw3 := hb1.trans (hb3.mono hbs)
   have HS3 : Hid (SIn w2 Any (b ++ (varsN (i : Int) l).take (q + 1)) A3 ∧ (A3 = none → c3 = 0)) := Lib.hid ⟨by rw [← HQ9.out]; exact hS3, hA3⟩
   rw [HL9.out]
   clear hS3 hA3 hb3 hL1 hLr1 hb1 hbs HC e4 e2 d1
   go_wp2_with fail
   go_roundw
   case rel => exact ⟨q + 1, A3, _, c3, by omega, by go_num, rfl, rfl, HS3, hL3, hLr3, hsz3, hbw3⟩
   case measure => simp [intOf]; omega
  ·have hqi : q = i := by omega
   have HQI := Lib.hid hqi
   have hVL : b ++ (varsN (i : Int) l).take q = b ++ varsN (i : Int) l := by
    have e1 := HV.out
    rw [List.take_of_length_le (by omega)]
   have HMI : Hid (m2 = (b ++ varsN (i : Int) l).length) := Lib.hid (by have e1 := HV.out; rw [List.length_append, ← HMB.out]; omega)
   rw [hVL] at HS
   obtain ⟨LI, hLI⟩ : ∃ L, L = b ++ varsN (i : Int) l := ⟨_, rfl⟩
   rw [← hLI] at HS HMI HT2
   have hm29 : m2 ≤ mb + 9 := by omega
   clear hVL hLI hqi HVA HV hm2
   obtain ⟨gp, op, Ap, cp, ⟨hAp, _⟩, dp0, dp1, dp2, dp3, dp4, hInp⟩ := LIn.at_ l HI.out i hil
   have hglp := cell_lt dp0
   have hdpp := depthL_mem l (l[i]'hil) (List.getElem_mem hil)
   have hokp := okL_mem l (l[i]'hil) (List.getElem_mem hil) HOK.out
   have hT2 := HT2.out hil
   obtain ⟨Pp, hPp⟩ : ∃ t, t = l[i]'hil := ⟨_, rfl⟩
   rw [← hPp] at dp0 dp1 dp2 dp3 dp4 hInp hdpp hokp hT2
   subst hAp
   simp only [Nat.zero_add] at dp0 dp1 dp2 dp3 dp4
   clear hPp HT2 hLt hLr hb0
   have hB1 : w.heap.size + 2 ≤ wr.heap.size := Nat.le_trans hBW hsz1
   generalize wr = W1 at *
   have hb0 := hb1
   have HTEp : Hid (∀ X, Below W1.heap.size W1 X → ∀ (Z : Nat → Prop) (hZ : ∀ g, X.heap.size ≤ g → Z g), Calls Tryz.prog 52 #[tv Pp Ap cp, .slice A2 m2 c2] X fun e w' => ∃ A c, e = .returned (ev (termT LI Pp) A c) ∧ EIn w' Z (termT LI Pp) A ∧ Below X.heap.size X w') := Lib.hid fun X hX Z hZ =>
    (ih Pp Ap cp LI A2 m2 c2 X (by omega) hokp HMI.out (by omega) (TIn.below _ hInp (hb1.trans (hX.mono hb1.size)) (Nat.le_refl _)) (SIn.below HS.out.1 hX (Nat.le_refl _)) HS.out.2).mono fun e w' ⟨A, c, h1, h2, h3⟩ => ⟨A, c, h1, EIn.wide _ h2 (fun g hg _ => hZ g hg), h3⟩
   obtain ⟨up, hup⟩ : ∃ t, t = termT LI Pp := ⟨_, rfl⟩
   rw [← hup] at HTEp hT2
   clear hup
   obtain ⟨upk, upn, ups, upl⟩ := up
   have HE := Lib.hid hT2
   obtain ⟨pk, ps, pn, pa, pl⟩ := Pp
   simp only [ev, tv, Te.kind, Te.n, Te.name, Te.parts, Tr.kind, Tr.name, Tr.n, Tr.place, Tr.parts] at HTEp dp0 dp1 dp2 dp3 dp4
   have HSS : Hid (∀ V', Below W1.heap.size W1 V' → (fun V' : World => (V'.cell? ⟨w.heap.size, 0, none⟩ = some (.int .i64 8) ∧ V'.cell? ⟨w.heap.size, 1, none⟩ = some (.string s) ∧ V'.cell? ⟨w.heap.size, 2, none⟩ = some (.int .i64 (i : Int)) ∧ V'.cell? ⟨w.heap.size, 3, none⟩ = some (.int .i64 a) ∧ V'.cell? ⟨w.heap.size, 4, none⟩ = some (.slice (some ⟨gp, op, none⟩) m c) ∧ V'.cell? ⟨gp, op + i * 5, none⟩ = some (.int .i64 pk) ∧ V'.cell? ⟨gp, op + i * 5 + 1, none⟩ = some (.string ps) ∧ V'.cell? ⟨gp, op + i * 5 + 2, none⟩ = some (.int .i64 pn) ∧ V'.cell? ⟨gp, op + i * 5 + 3, none⟩ = some (.int .i64 pa) ∧ V'.cell? ⟨gp, op + i * 5 + 4, none⟩ = some (.slice Ap pl.length (capF pl.length cp)))) V') := Lib.hid fun V' h =>
    ⟨(h.cell (p := ⟨w.heap.size, 0, none⟩) hL1.lt).trans (hL1.cell 0), (h.cell (p := ⟨w.heap.size, 1, none⟩) hL1.lt).trans (hL1.cell 1), (h.cell (p := ⟨w.heap.size, 2, none⟩) hL1.lt).trans (hL1.cell 2), (h.cell (p := ⟨w.heap.size, 3, none⟩) hL1.lt).trans (hL1.cell 3), (h.cell (p := ⟨w.heap.size, 4, none⟩) hL1.lt).trans (hL1.cell 4), (((hb1.trans (h.mono hb1.size)).cell (p := ⟨gp, _, none⟩) hglp)).trans dp0, (((hb1.trans (h.mono hb1.size)).cell (p := ⟨gp, _, none⟩) hglp)).trans dp1, (((hb1.trans (h.mono hb1.size)).cell (p := ⟨gp, _, none⟩) hglp)).trans dp2, (((hb1.trans (h.mono hb1.size)).cell (p := ⟨gp, _, none⟩) hglp)).trans dp3, (((hb1.trans (h.mono hb1.size)).cell (p := ⟨gp, _, none⟩) hglp)).trans dp4⟩
   clear hT2 dp0 dp1 dp2 dp3 dp4 hdpp hokp hInp hL1 HS HMI
   go_upto_region 18 with fail
   have hb_1 : Below W1.heap.size W1 W1 := Below.refl _ _
   refine wp_region_K (S := (fun V' : World => (V'.cell? ⟨w.heap.size, 0, none⟩ = some (.int .i64 8) ∧ V'.cell? ⟨w.heap.size, 1, none⟩ = some (.string s) ∧ V'.cell? ⟨w.heap.size, 2, none⟩ = some (.int .i64 (i : Int)) ∧ V'.cell? ⟨w.heap.size, 3, none⟩ = some (.int .i64 a) ∧ V'.cell? ⟨w.heap.size, 4, none⟩ = some (.slice (some ⟨gp, op, none⟩) m c) ∧ V'.cell? ⟨gp, op + i * 5, none⟩ = some (.int .i64 pk) ∧ V'.cell? ⟨gp, op + i * 5 + 1, none⟩ = some (.string ps) ∧ V'.cell? ⟨gp, op + i * 5 + 2, none⟩ = some (.int .i64 pn) ∧ V'.cell? ⟨gp, op + i * 5 + 3, none⟩ = some (.int .i64 pa) ∧ V'.cell? ⟨gp, op + i * 5 + 4, none⟩ = some (.slice Ap pl.length (capF pl.length cp))))) 14 rfl (HSS.out _ hb_1.drew) (fun hSs => ?_)
   change wpAnyK _ _ _ _ _ _ 15 (Array.replicate 15 false) _ _
   refine tkA (i := 0) (oi := ⟨some 106, _, _, _, _, _⟩) (v := .pointer (some ⟨w.heap.size, 1, none⟩)) hSs ?_
   try go_frame
   refine tkA (i := 1) (oi := ⟨some 107, _, _, _, _, _⟩) (v := .string s) hSs ?_
   try go_frame
   refine tkA (i := 2) (oi := ⟨some 108, _, _, _, _, _⟩) (v := .pointer (some ⟨w.heap.size, 2, none⟩)) hSs ?_
   try go_frame
   refine tkA (i := 3) (oi := ⟨some 109, _, _, _, _, _⟩) (v := .int .i64 (i : Int)) hSs ?_
   try go_frame
   refine tkA (i := 4) (oi := ⟨some 110, _, _, _, _, _⟩) (v := .pointer (some ⟨w.heap.size, 4, none⟩)) hSs ?_
   try go_frame
   refine tkA (i := 5) (oi := ⟨some 111, _, _, _, _, _⟩) (v := .slice (some ⟨gp, op, none⟩) m c) hSs ?_
   try go_frame
   refine tkA (i := 6) (oi := ⟨some 112, _, _, _, _, _⟩) (v := .pointer (some ⟨w.heap.size, 2, none⟩)) hSs ?_
   try go_frame
   refine tkA (i := 7) (oi := ⟨some 113, _, _, _, _, _⟩) (v := .int .i64 (i : Int)) hSs ?_
   try go_frame
   refine tkA (i := 8) (oi := ⟨some 114, _, _, _, _, _⟩) (v := .pointer (some ⟨gp, op + i * 5, none⟩)) hSs ?_
   try go_frame
   refine tkA (i := 9) (oi := ⟨some 115, _, _, _, _, _⟩) (v := .agg #[.int .i64 pk, .string ps, .int .i64 pn, .int .i64 pa, .slice Ap pl.length (capF pl.length cp)]) hSs ?_
   try go_frame
   refine tkB (i := 10) (oi := ⟨some 116, _, _, _, _, _⟩) (v := .slice A2 m2 c2) hSs ?_
   try go_frame
   refine wpAnyK_one  (i := 11) rfl rfl (by kernel_rfl) (fun K hK => ?_)
   go_simp
   refine (HTEp.out _ (hb_1.drew) (fun g => w.heap.size + 2 ≤ g) (fun g h => Nat.le_trans (Nat.le_trans hB1 hb_1.size) h)).mono ?_
   rintro e u_2 ⟨A_2, c_2, rfl, hT_2, hq_2⟩
   have hb_2 := (hb_1.drew).trans (hq_2.mono (hb_1.drew).size)
   have hLr1_2 := (hLr1.drew).below hq_2 hLr1.lt
   refine hK.out _ _ (fun _ => HSS.out _ hb_2) (fun hS9 => ?_)
   have hS_2 := hS9 (by decide)
   clear hK K hS9
   try go_frame
   refine wpAnyK_one  (i := 12) rfl rfl (by kernel_rfl) (fun K hK => ?_)
   go_simp
   have hb_3 := Below.alloc hb_2 hb_2.size (.cells #[.int .i64 upk, .int .i64 upn, .string ups, .slice A_2 upl.length (capF upl.length c_2)] 24)
   have hl_3 : Lies (u_2.alloc (.cells #[.int .i64 upk, .int .i64 upn, .string ups, .slice A_2 upl.length (capF upl.length c_2)] 24)) (u_2.heap.size) 24 #[.int .i64 upk, .int .i64 upn, .string ups, .slice A_2 upl.length (capF upl.length c_2)] := Lies.new _ _ _
   have hLr1_2_3 := hLr1_2.old (.cells #[.int .i64 upk, .int .i64 upn, .string ups, .slice A_2 upl.length (capF upl.length c_2)] 24)
   refine hK.out _ _ (fun _ => HSS.out _ hb_3) (fun hS9 => ?_)
   have hS_3 := hS9 (by decide)
   clear hK K hS9
   try go_frame
   have hT_2_3 := EIn.below (w' := (u_2.alloc (.cells #[.int .i64 upk, .int .i64 upn, .string ups, .slice A_2 upl.length (capF upl.length c_2)] 24))) _ hT_2 ((Below.refl _ _).alloc (Nat.le_refl _) _) (Nat.le_refl _)
   refine tkA (i := 13) (oi := ⟨some 119, _, _, _, _, _⟩) (v := .agg #[.int .i64 6, .int .i64 (i : Int), .string s, .slice (some ⟨u_2.heap.size, 0, none⟩) 1 1]) hS_3 ?_
   try go_frame
   refine wpAnyK_one  (i := 14) rfl rfl (by kernel_rfl) (fun K hK => ?_)
   refine wp_store_as (F := fun W9 => Below w.heap.size w W9 ∧ Lies W9 (w.heap.size + 1) 24 #[.int .i64 6, .int .i64 (i : Int), .string s, .slice (some ⟨u_2.heap.size, 0, none⟩) 1 1] ∧ Lies W9 (u_2.heap.size) 24 #[.int .i64 upk, .int .i64 upn, .string ups, .slice A_2 upl.length (capF upl.length c_2)] ∧ EIn W9 (fun g => w.heap.size + 2 ≤ g) (.node upk upn ups upl) A_2) _ _ _ rfl (w.heap.size + 1) 0 #[.int .i64 6, .int .i64 (i : Int), .string s, .slice (some ⟨u_2.heap.size, 0, none⟩) 1 1] rfl rfl (lies_is hLr1_2_3 rfl) (by kernel_rfl) (by simp [Value.oneCell']) ⟨below_cells (hb0.trans (hb_3.mono hb0.size)) (by omega) _ _, lies_set4 hLr1_2_3 _ _ _ _, lies_offs hl_3 (Nat.ne_of_gt (Nat.lt_of_lt_of_le hB1 hb_2.size)) _ _, ein_offs _ hT_2_3 (by omega) _ _⟩ (fun W_4 hF_4 => ?_)
   refine hK.out _ _ (fun h => absurd rfl h) (fun _ => ?_)
   clear hK K
   try go_frame
   refine wpAnyK_done (by kernel_rfl) ?_ _
   obtain ⟨f1, f2, f3, f4⟩ := hF_4
   have hsu := hb_2.size
   go_wp2_with fail
   refine bodyPost_ret (res_term (p := 4) Tryz.results52 rfl f2) rfl ?_
   rw [HE.out]
   refine ⟨some ⟨u_2.heap.size, 0, none⟩, 1, rfl, ein_mk hss (by omega) (by omega) (by simp) ?_, f1⟩
   exact ein_lies1 (t := (.node upk upn ups upl)) (A := A_2) (c := c_2) f3 (by omega) (EIn.wide _ f4 (fun g h _ => by have h9 : w.heap.size + 2 ≤ g := h; omega))
set_option maxHeartbeats 8000000 in
theorem term7_con {d : Nat} (ih : Term7 d) (k : Int) (n a : Int) (s : ByteArray) (l : List Tr) (A : Option Addr) (m c : Nat) (b : List ByteArray) (Ab : Option Addr) (mb cb : Nat) (w : World) (hm : m = l.length) (hm9 : m ≤ 9) (hk : k ≠ 1 ∧ k ≠ 2 ∧ k ≠ 3 ∧ k ≠ 4 ∧ k ≠ 5 ∧ k ≠ 8 ∧ k ≠ 9) (hd : depthL l ≤ d) (hok : okL l) (hss : s.size ≤ 140737488351232) (hmb : mb = b.length) (hbl : mb + 9 * (d + 1) ≤ 70000) (hI : LIn w Any l A 0) (hB : SIn w Any b Ab) (hAb : Ab = none → cb = 0) :
  Calls Tryz.prog 52 #[.agg #[.int .i64 k, .string s, .int .i64 n, .int .i64 a, .slice A m c], .slice Ab mb cb] w (GivesE (termT b (.node k s n a l)) w) := by
 have HI := Lib.hid hI
 have HOK := Lib.hid hok
 have HB := Lib.hid hB
 have HAB := Lib.hid hAb
 have HMB := Lib.hid hmb
 have hbl' := hbl
 clear hI hok hB hAb hmb
 have hm1 : m ≤ l.length := by omega
 have hm2 : l.length ≤ m := by omega
 have HE : Hid (termT b (.node k s n a l) = .node (kind7 k) 0 s (termL b l)) := Lib.hid (by
  rw [termT, if_neg hk.1, if_neg hk.2.1, if_neg hk.2.2.1, if_neg hk.2.2.2.1, if_neg hk.2.2.2.2.1, if_neg hk.2.2.2.2.2.1, if_neg hk.2.2.2.2.2.2])
 have e1 : (k == 1) = false := by simpa using hk.1
 have e2 : (k == 2) = false := by simpa using hk.2.1
 have e3 : (k == 3) = false := by simpa using hk.2.2.1
 have e4 : (k == 4) = false := by simpa using hk.2.2.2.1
 have e5 : (k == 5) = false := by simpa using hk.2.2.2.2.1
 have e8 : (k == 8) = false := by simpa using hk.2.2.2.2.2.1
 have e9 : (k == 9) = false := by simpa using hk.2.2.2.2.2.2
 have HNN : Hid (l = [] → (none : Option Addr) = none) := Lib.hid fun _ => rfl
 obtain ⟨i0, hi0, hz0, hz1, hz2⟩ : ∃ i, Tryz.prog.info? 24 = some i ∧ i.zero = some (.agg #[.int .i64 0, .int .i64 0, .string ⟨#[]⟩, .slice none 0 0]) ∧ i.size = 4 ∧ i.bytes = 56 := by
  have h := infoE
  cases hq : Tryz.prog.info? 24 with
  | none => rw [hq] at h; cases h
  | some i => rw [hq] at h; simp only [Option.map_some, Option.some.injEq, Prod.mk.injEq] at h; exact ⟨i, rfl, h.1, h.2.1, h.2.2⟩
 have hLt0 : Lies ((w.alloc (.cells #[.int .i64 k, .string s, .int .i64 n, .int .i64 a, .slice A m c] 49)).alloc (.cells #[.int .i64 0, .int .i64 0, .string ⟨#[]⟩, .slice none 0 0] 24)) w.heap.size 49 #[.int .i64 k, .string s, .int .i64 n, .int .i64 a, .slice A m c] := (Lies.new w _ _).old _
 have hLr0 : Lies ((w.alloc (.cells #[.int .i64 k, .string s, .int .i64 n, .int .i64 a, .slice A m c] 49)).alloc (.cells #[.int .i64 0, .int .i64 0, .string ⟨#[]⟩, .slice none 0 0] 24)) (w.heap.size + 1) 24 #[.int .i64 0, .int .i64 0, .string ⟨#[]⟩, .slice none 0 0] := by simpa using Lies.new (w.alloc (.cells #[.int .i64 k, .string s, .int .i64 n, .int .i64 a, .slice A m c] 49)) 24 #[.int .i64 0, .int .i64 0, .string ⟨#[]⟩, .slice none 0 0]
 have hb00 : Below w.heap.size w ((w.alloc (.cells #[.int .i64 k, .string s, .int .i64 n, .int .i64 a, .slice A m c] 49)).alloc (.cells #[.int .i64 0, .int .i64 0, .string ⟨#[]⟩, .slice none 0 0] 24)) := ((Below.refl _ w).alloc (Nat.le_refl _) _).alloc (by simp) _
 have HMK : Hid (∀ kk : Int, Below w.heap.size w (((w.alloc (.cells #[.int .i64 k, .string s, .int .i64 n, .int .i64 a, .slice A m c] 49)).alloc (.cells #[.int .i64 0, .int .i64 0, .string ⟨#[]⟩, .slice none 0 0] 24)).alloc (.cells #[.int .i64 kk, .int .i64 0, .string s, .slice none 0 0] 24)) ∧ Lies (((w.alloc (.cells #[.int .i64 k, .string s, .int .i64 n, .int .i64 a, .slice A m c] 49)).alloc (.cells #[.int .i64 0, .int .i64 0, .string ⟨#[]⟩, .slice none 0 0] 24)).alloc (.cells #[.int .i64 kk, .int .i64 0, .string s, .slice none 0 0] 24)) w.heap.size 49 #[.int .i64 k, .string s, .int .i64 n, .int .i64 a, .slice A m c] ∧ Lies (((w.alloc (.cells #[.int .i64 k, .string s, .int .i64 n, .int .i64 a, .slice A m c] 49)).alloc (.cells #[.int .i64 0, .int .i64 0, .string ⟨#[]⟩, .slice none 0 0] 24)).alloc (.cells #[.int .i64 kk, .int .i64 0, .string s, .slice none 0 0] 24)) (w.heap.size + 1) 24 #[.int .i64 0, .int .i64 0, .string ⟨#[]⟩, .slice none 0 0] ∧ Lies (((w.alloc (.cells #[.int .i64 k, .string s, .int .i64 n, .int .i64 a, .slice A m c] 49)).alloc (.cells #[.int .i64 0, .int .i64 0, .string ⟨#[]⟩, .slice none 0 0] 24)).alloc (.cells #[.int .i64 kk, .int .i64 0, .string s, .slice none 0 0] 24)) (w.heap.size + 1 + 1) 24 #[.int .i64 kk, .int .i64 0, .string s, .slice none 0 0] ∧ w.heap.size + 3 ≤ (((w.alloc (.cells #[.int .i64 k, .string s, .int .i64 n, .int .i64 a, .slice A m c] 49)).alloc (.cells #[.int .i64 0, .int .i64 0, .string ⟨#[]⟩, .slice none 0 0] 24)).alloc (.cells #[.int .i64 kk, .int .i64 0, .string s, .slice none 0 0] 24)).heap.size) := Lib.hid fun kk =>
  ⟨hb00.alloc hb00.size _, hLt0.old _, hLr0.old _, by simpa using Lies.new ((w.alloc (.cells #[.int .i64 k, .string s, .int .i64 n, .int .i64 a, .slice A m c] 49)).alloc (.cells #[.int .i64 0, .int .i64 0, .string ⟨#[]⟩, .slice none 0 0] 24)) 24 #[.int .i64 kk, .int .i64 0, .string s, .slice none 0 0], by simp⟩
 clear hm hk hLt0 hLr0 hb00
 rcases (by omega : k = 7 ∨ k = 10 ∨ (k ≠ 7 ∧ k ≠ 10)) with hk | hk | ⟨hk, hk'⟩
 ·have e7 : (k == 7) = true := by simp; omega
  have e10 : (k == 10) = false := by simp; omega
  have HKK : Hid (kind7 k = 5) := Lib.hid (by simp only [kind7]; rw [if_neg (by omega), if_pos hk])
  obtain ⟨m_b, m_t, m_r, m_o, m_s⟩ := HMK.out 5
  clear HMK hk
  go_enter Tryz.func52, Tryz.ntmps52
  go_wp2_with fail
  go_loopw [8] (fun x wr => ∃ (i : Nat) (B : Option Addr) (bc : Nat) (zs : List Value), i ≤ m ∧ x = .int .i64 i ∧ Lies wr w.heap.size 49 #[.int .i64 k, .string s, .int .i64 n, .int .i64 a, .slice A m c] ∧ Lies wr (w.heap.size + 1) 24 #[.int .i64 0, .int .i64 0, .string ⟨#[]⟩, .slice none 0 0] ∧ Lies wr (w.heap.size + 1 + 1) 24 #[.int .i64 5, .int .i64 0, .string s, .slice B i bc] ∧
    wr.ownsRow (w.heap.size + 3) 24 4 (.slice B i bc) i zs ∧
    RowTe wr (fun g => w.heap.size + 3 ≤ g ∧ some g ≠ (Value.slice B i bc).ownBlock) (termL b (l.take i)) zs ∧ w.heap.size + 3 ≤ wr.heap.size ∧ Below w.heap.size w wr) (fun x _ => m - (intOf x).toNat)
  case atStart =>
   exact ⟨0, none, 0, [], by omega, rfl, m_t, m_r, m_o, World.ownsRow_nil _ _ _ _, by simpa [termL] using RowTe.nil _ _, m_s, m_b⟩
  case round =>
   clear m_t m_r m_o m_s m_b
   obtain ⟨i, B, bc, zs, hi, rfl, lt, lr, lo, hown, hrow, hsz, hbw⟩ := hrel
   have c4 := lt.five.1.2.2.2.2
   by_cases hlt : i < m
   ·have hia : i < l.length := by omega
    obtain ⟨g, o, Ap, cp, ⟨hA, _⟩, d0, d1, d2, d3, d4, hIn⟩ := LIn.at_ l (LIn.keep l HI.out fun g j _ h => ⟨hbw.cell (p := ⟨g, j, none⟩) h, trivial⟩) i hia
    have hgw : g < w.heap.size := by obtain ⟨g0, o0, A0, c0, ⟨hA0, _⟩, hx0, _⟩ := LIn.at_ l HI.out i hia; rw [hA] at hA0; cases hA0; exact cell_lt hx0
    subst hA
    simp only [Nat.zero_add] at d0 d1 d2 d3 d4
    have hdp := depthL_mem l (l[i]'hia) (List.getElem_mem hia)
    have hokp := okL_mem l (l[i]'hia) (List.getElem_mem hia) HOK.out
    have HS := Lib.hid (termL_take b l i hia)
    obtain ⟨tr, hu⟩ : ∃ tr, tr = l[i]'hia := ⟨_, rfl⟩
    rw [← hu] at d0 d1 d2 d3 d4 hIn hdp hokp HS
    clear hu
    have HRE : Hid (∀ X, Below wr.heap.size wr X → Calls Tryz.prog 52 #[tv tr Ap cp, .slice Ab mb cb] X fun e w' => ∃ A2 c2, e = .returned (ev (termT b tr) A2 c2) ∧ EIn w' (fun g => X.heap.size ≤ g) (termT b tr) A2 ∧ Below X.heap.size X w') := Lib.hid fun X hX =>
     ih tr Ap cp b Ab mb cb X (by omega) hokp HMB.out (by omega) (TIn.below _ hIn hX (Nat.le_refl _)) (SIn.below HB.out (hbw.trans (hX.mono hbw.size)) (Nat.le_refl _)) HAB.out
    obtain ⟨U, hU⟩ : ∃ U, U = termT b tr := ⟨_, rfl⟩
    rw [← hU] at HRE HS
    clear hU
    obtain ⟨uk, un, us, ul⟩ := U
    obtain ⟨pk, ps, pn, pa, pl⟩ := tr
    simp only [ev, tv, Te.kind, Te.n, Te.name, Te.parts, Tr.kind, Tr.name, Tr.n, Tr.place, Tr.parts] at HRE d0 d1 d2 d3 d4
    have hlto := hown.lt
    have HLt := Lib.hid lt
    have HLr := Lib.hid lr
    have HLo := Lib.hid lo
    have HSK : Hid (∀ W : World, (∀ b j, b < w.heap.size + 3 → W.cell? ⟨b, j, none⟩ = wr.cell? ⟨b, j, none⟩) → (fun V' : World => (V'.cell? ⟨w.heap.size, 0, none⟩ = some (.int .i64 k) ∧ V'.cell? ⟨w.heap.size, 1, none⟩ = some (.string s) ∧ V'.cell? ⟨w.heap.size, 2, none⟩ = some (.int .i64 n) ∧ V'.cell? ⟨w.heap.size, 3, none⟩ = some (.int .i64 a) ∧ V'.cell? ⟨w.heap.size, 4, none⟩ = some (.slice (some ⟨g, o, none⟩) m c) ∧ V'.cell? ⟨w.heap.size + 1 + 1, 3, none⟩ = some (.slice B i bc) ∧ V'.cell? ⟨g, o + i * 5, none⟩ = some (.int .i64 pk) ∧ V'.cell? ⟨g, o + i * 5 + 1, none⟩ = some (.string ps) ∧ V'.cell? ⟨g, o + i * 5 + 2, none⟩ = some (.int .i64 pn) ∧ V'.cell? ⟨g, o + i * 5 + 3, none⟩ = some (.int .i64 pa) ∧ V'.cell? ⟨g, o + i * 5 + 4, none⟩ = some (.slice Ap pl.length (capF pl.length cp)))) W) := Lib.hid fun W hW =>
     ⟨(hW _ _ (by omega)).trans (HLt.out.cell 0), (hW _ _ (by omega)).trans (HLt.out.cell 1), (hW _ _ (by omega)).trans (HLt.out.cell 2), (hW _ _ (by omega)).trans (HLt.out.cell 3), (hW _ _ (by omega)).trans (HLt.out.cell 4), (hW _ _ (by omega)).trans (HLo.out.cell 3), (hW _ _ (by omega)).trans d0, (hW _ _ (by omega)).trans d1, (hW _ _ (by omega)).trans d2, (hW _ _ (by omega)).trans d3, (hW _ _ (by omega)).trans d4⟩
    have HSS : Hid (∀ V', Below wr.heap.size wr V' → (fun V' : World => (V'.cell? ⟨w.heap.size, 0, none⟩ = some (.int .i64 k) ∧ V'.cell? ⟨w.heap.size, 1, none⟩ = some (.string s) ∧ V'.cell? ⟨w.heap.size, 2, none⟩ = some (.int .i64 n) ∧ V'.cell? ⟨w.heap.size, 3, none⟩ = some (.int .i64 a) ∧ V'.cell? ⟨w.heap.size, 4, none⟩ = some (.slice (some ⟨g, o, none⟩) m c) ∧ V'.cell? ⟨w.heap.size + 1 + 1, 3, none⟩ = some (.slice B i bc) ∧ V'.cell? ⟨g, o + i * 5, none⟩ = some (.int .i64 pk) ∧ V'.cell? ⟨g, o + i * 5 + 1, none⟩ = some (.string ps) ∧ V'.cell? ⟨g, o + i * 5 + 2, none⟩ = some (.int .i64 pn) ∧ V'.cell? ⟨g, o + i * 5 + 3, none⟩ = some (.int .i64 pa) ∧ V'.cell? ⟨g, o + i * 5 + 4, none⟩ = some (.slice Ap pl.length (capF pl.length cp)))) V') := Lib.hid fun V' h => HSK.out V' fun b j hb => h.cell (p := ⟨b, j, none⟩) (by show b < _; omega)
    have HOW := Lib.hid hown
    have HRO := Lib.hid hrow
    have HBW := Lib.hid hbw
    clear hown hrow hbw hIn d0 d1 d2 d3 d4 lt lr lo hokp hdp
    go_upto_region 29 with fail
    clear c4
    have hb_1 : Below wr.heap.size wr wr := Below.refl _ _
    refine wp_region_K (S := (fun V' : World => (V'.cell? ⟨w.heap.size, 0, none⟩ = some (.int .i64 k) ∧ V'.cell? ⟨w.heap.size, 1, none⟩ = some (.string s) ∧ V'.cell? ⟨w.heap.size, 2, none⟩ = some (.int .i64 n) ∧ V'.cell? ⟨w.heap.size, 3, none⟩ = some (.int .i64 a) ∧ V'.cell? ⟨w.heap.size, 4, none⟩ = some (.slice (some ⟨g, o, none⟩) m c) ∧ V'.cell? ⟨w.heap.size + 1 + 1, 3, none⟩ = some (.slice B i bc) ∧ V'.cell? ⟨g, o + i * 5, none⟩ = some (.int .i64 pk) ∧ V'.cell? ⟨g, o + i * 5 + 1, none⟩ = some (.string ps) ∧ V'.cell? ⟨g, o + i * 5 + 2, none⟩ = some (.int .i64 pn) ∧ V'.cell? ⟨g, o + i * 5 + 3, none⟩ = some (.int .i64 pa) ∧ V'.cell? ⟨g, o + i * 5 + 4, none⟩ = some (.slice Ap pl.length (capF pl.length cp))))) 12 rfl (HSS.out _ hb_1.drew) (fun hSs => ?_)
    change wpAnyK _ _ _ _ _ _ 13 (Array.replicate 13 false) _ _
    refine tkA (i := 0) (oi := ⟨some 143, _, _, _, _, _⟩) (v := .pointer (some ⟨w.heap.size + 1 + 1, 3, none⟩)) hSs ?_
    try go_frame
    refine tkA (i := 1) (oi := ⟨some 144, _, _, _, _, _⟩) (v := .slice B i bc) hSs ?_
    try go_frame
    refine tkA (i := 2) (oi := ⟨some 145, _, _, _, _, _⟩) (v := .pointer (some ⟨w.heap.size, 4, none⟩)) hSs ?_
    try go_frame
    refine tkA (i := 3) (oi := ⟨some 146, _, _, _, _, _⟩) (v := .slice (some ⟨g, o, none⟩) m c) hSs ?_
    try go_frame
    refine tkB (i := 4) (oi := ⟨some 147, _, _, _, _, _⟩) (v := .int .i64 (i : Int)) hSs ?_
    try go_frame
    refine tkA (i := 5) (oi := ⟨some 148, _, _, _, _, _⟩) (v := .pointer (some ⟨g, o + i * 5, none⟩)) hSs ?_
    try go_frame
    refine tkA (i := 6) (oi := ⟨some 149, _, _, _, _, _⟩) (v := .agg #[.int .i64 pk, .string ps, .int .i64 pn, .int .i64 pa, .slice Ap pl.length (capF pl.length cp)]) hSs ?_
    try go_frame
    refine tkB (i := 7) (oi := ⟨some 150, _, _, _, _, _⟩) (v := .slice Ab mb cb) hSs ?_
    try go_frame
    refine wpAnyK_one  (i := 8) rfl rfl (by kernel_rfl) (fun K hK => ?_)
    go_simp
    refine (HRE.out _ (hb_1.drew) ).mono ?_
    rintro e u_2 ⟨A2, c2, rfl, hT_2, hq_2⟩
    have hb_2 := (hb_1.drew).trans (hq_2.mono (hb_1.drew).size)
    have hbr := hb_2
    have hs2 := hbr.size
    have hown2 := own_below HOW.out hbr (Nat.le_refl _)
    have hrow2 := HRO.out.below hbr (Nat.le_refl _)
    refine hK.out _ _ (fun _ => HSS.out _ hb_2) (fun hS9 => ?_)
    have hS_2 := hS9 (by decide)
    clear hK K hS9
    try go_frame
    refine wpAnyK_one  (i := 9) rfl rfl (by kernel_rfl) (fun K hK => ?_)
    go_simp
    have hb_3 := Below.alloc hb_2 hb_2.size (.cells #[.int .i64 uk, .int .i64 un, .string us, .slice A2 ul.length (capF ul.length c2)] 24)
    have hl_3 : Lies (u_2.alloc (.cells #[.int .i64 uk, .int .i64 un, .string us, .slice A2 ul.length (capF ul.length c2)] 24)) (u_2.heap.size) 24 #[.int .i64 uk, .int .i64 un, .string us, .slice A2 ul.length (capF ul.length c2)] := Lies.new _ _ _
    refine hK.out _ _ (fun _ => HSS.out _ hb_3) (fun hS9 => ?_)
    have hS_3 := hS9 (by decide)
    clear hK K hS9
    try go_frame
    refine wpAnyK_one  (i := 10) rfl rfl (by kernel_rfl) (fun K hK => ?_)
    refine wp_append_lies _ _ _ _ rfl (w.heap.size + 3) 24 i0 _ 4 56 Tryz.underlying22 hi0 hz0 hz1 hz2 rfl (by omega) (.slice B i bc) i zs rfl (hown2.alloc _)
     ⟨u_2.heap.size, 0, none⟩ 1 1 [.int .i64 uk, .int .i64 un, .string us, .slice A2 ul.length (capF ul.length c2)] rfl rfl (World.news_of_block (cs := #[.int .i64 uk, .int .i64 un, .string us, .slice A2 ul.length (capF ul.length c2)]) (t := 24) (fr := (0, 0)) (heap_alloc_new u_2 _)) (by simp [Value.oneCell'])
     (by omega) (by simp only [maxLen]; omega) (by omega) (by simp; omega) (u_2.heap.size + 1) (by simp) ?_
    intro gg c3 w3 hown3 hg3 hat hltg
    have K3 : ∀ b j, b < w.heap.size + 3 → w3.cell? ⟨b, j, none⟩ = wr.cell? ⟨b, j, none⟩ := fun b j hb =>
     (World.cell?_of_block (hg3.block b (by simp; omega) (fun e => by have := (hlto b e.symm).1; omega))).trans ((World.cell?_alloc_lt u_2 _ ⟨b, j, none⟩ (by show b < _; omega)).trans (hbr.cell (p := ⟨b, j, none⟩) (by show b < _; omega)))
    refine hK.out _ _ (fun _ => HSK.out _ K3) (fun hS9 => ?_)
    have hS_9 := hS9 (by decide)
    clear hK K hS9
    try go_frame
    refine tkA (i := 11) (oi := ⟨some 154, _, _, _, _, _⟩) (v := .pointer (some ⟨w.heap.size + 1 + 1, 3, none⟩)) hS_9 ?_
    try go_frame
    refine wpAnyK_one  (i := 12) rfl rfl (by kernel_rfl) (fun K hK => ?_)
    have hs3 := hg3.size
    simp at hs3
    have hnb : ∀ b, b < w.heap.size + 3 → some b ≠ (Value.slice B i bc).ownBlock := fun b hb e => by have := (hlto b e.symm).1; omega
    have jt := ((HLt.out.below hbr (by have := HLt.out.lt; omega)).old (.cells #[.int .i64 uk, .int .i64 un, .string us, .slice A2 ul.length (capF ul.length c2)] 24)).grown hg3 (hnb _ (by omega))
    have jr := ((HLr.out.below hbr (by have := HLr.out.lt; omega)).old (.cells #[.int .i64 uk, .int .i64 un, .string us, .slice A2 ul.length (capF ul.length c2)] 24)).grown hg3 (hnb _ (by omega))
    have jo := ((HLo.out.below hbr (by have := HLo.out.lt; omega)).old (.cells #[.int .i64 uk, .int .i64 un, .string us, .slice A2 ul.length (capF ul.length c2)] 24)).grown hg3 (hnb _ (by omega))
    have hB3 : Below w.heap.size w w3 := ((HBW.out.trans (hbr.mono HBW.out.size)).alloc (by have := HBW.out.size; omega) (.cells #[.int .i64 uk, .int .i64 un, .string us, .slice A2 ul.length (capF ul.length c2)] 24)).grown hg3 (by simp; omega) (fun q hq => by have := (hlto q hq).1; omega)
    have e4 := jo.four.1.2.2.2
    have f4 := jo.four.2.2.2.2
    have hfar : ∀ b j, b < u_2.heap.size → some b ≠ (Value.slice B i bc).ownBlock → w3.cell? ⟨b, j, none⟩ = u_2.cell? ⟨b, j, none⟩ ∧ some b ≠ (Value.slice (some ⟨gg, 0, none⟩) (i + 1) c3).ownBlock := fun b j hb hne => by
     refine ⟨(World.cell?_of_block (hg3.block b (by simp; omega) hne)).trans (World.cell?_alloc_lt u_2 _ ⟨b, j, none⟩ hb), fun e => ?_⟩
     have e9 : b = gg := Option.some.inj e
     rcases hat with h | h
     ·exact hne (by rw [h, e9])
     ·omega
    have hrow3 : RowTe w3 (fun g => w.heap.size + 3 ≤ g ∧ some g ≠ (Value.slice (some ⟨gg, 0, none⟩) (i + 1) c3).ownBlock) (termL b (l.take i)) zs :=
     hrow2.keep fun b j hX hb => ⟨(hfar b j hb hX.2).1, hX.1, (hfar b j hb hX.2).2⟩
    have hT3 : EIn w3 (fun g => w.heap.size + 3 ≤ g ∧ some g ≠ (Value.slice (some ⟨gg, 0, none⟩) (i + 1) c3).ownBlock) (.node uk un us ul) A2 :=
     EIn.keep _ hT_2 fun b j hX hb => by
      have hX' : wr.heap.size ≤ b := hX
      have hne : some b ≠ (Value.slice B i bc).ownBlock := fun e => by have := (hlto b e.symm).2; omega
      exact ⟨(hfar b j hb hne).1, by omega, (hfar b j hb hne).2⟩
    clear hi0 hz0 hz1 hz2 hg3 hat hown2 hrow2 hfar hT_2 K3
    go_wp2_with fail
    refine hK.out _ _ (fun h => absurd rfl h) (fun _ => ?_)
    clear hK K
    try go_frame
    refine wpAnyK_done (by kernel_rfl) ?_ _
    go_wp2_with fail
    go_roundw
    case rel =>
     refine ⟨i + 1, some ⟨gg, 0, none⟩, c3, zs ++ [.int .i64 uk, .int .i64 un, .string us, .slice A2 ul.length (capF ul.length c2)], by omega, by go_num, jt.far (by simp <;> omega) _, jr.far (by simp <;> omega) _, by simpa using jo.put 3 (.slice (some ⟨gg, 0, none⟩) (i + 1) c3), ?_, ?_, by simp [World.setCell]; omega, hB3.setCell (by show w.heap.size ≤ w.heap.size + 1 + 1; omega) _⟩
     ·exact ownsRow_setCell_below hown3 (by show w.heap.size + 1 + 1 < _; omega) _
     ·rw [HS.out]
      exact (hrow3.snoc (c := c2) hT3).setCell _ _ (fun h => by have h9 : w.heap.size + 3 ≤ w.heap.size + 1 + 1 := h.1; omega)
    case measure => simp [intOf]; omega
   ·have e0 := lo.four.1.1
    have e1' := lo.four.1.2.1
    have e2' := lo.four.1.2.2.1
    have e3' := lo.four.1.2.2.2
    obtain ⟨⟨z0, z1, z2, z3⟩, f0, f1, f2, f3⟩ := lr.four
    go_wp2_with fail
    obtain rfl : i = m := by omega
    rw [List.take_of_length_le (by omega)] at hrow
    have hbl2 := termL_len b l
    have hil : i = l.length := by omega
    refine bodyPost_ret (res_term (p := 4) Tryz.results52 rfl (lr.all _ _ _ _)) rfl ?_
    rw [HE.out, HKK.out]
    refine ⟨B, bc, ?_, ?_, ?_⟩
    ·rw [ev]
     simp only [Te.kind, Te.n, Te.name, Te.parts, hbl2]
     rw [capF_of (show l.length ≤ bc by have := own_le hown; omega), hil]
    ·refine ein_mk hss (by decide) (by decide) (by omega) ?_
     have hL := hrow.owned (Y := fun g => w.heap.size + 3 ≤ g) hown (fun g hg => hg) (fun g hg _ => hg.1)
     refine ELIn.keep _ hL fun g j hg _ => ⟨?_, by omega⟩
     have hne : ∀ q u, (⟨w.heap.size + 1, q, none⟩ : Addr) ≠ ⟨g, u, none⟩ := fun q u e => by injection e with e; omega
     rw [World.cell?_setCell_other _ _ _ _ (hne _ _), World.cell?_setCell_other _ _ _ _ (hne _ _), World.cell?_setCell_other _ _ _ _ (hne _ _), World.cell?_setCell_other _ _ _ _ (hne _ _)]
    ·exact Below.all hbw (by omega) _ _ _ _
 ·have e7 : (k == 7) = false := by simp; omega
  have e10 : (k == 10) = true := by simp; omega
  have HKK : Hid (kind7 k = 8) := Lib.hid (by simp only [kind7]; rw [if_pos hk])
  obtain ⟨m_b, m_t, m_r, m_o, m_s⟩ := HMK.out 8
  clear HMK hk
  go_enter Tryz.func52, Tryz.ntmps52
  go_wp2_with fail
  go_loopw [8] (fun x wr => ∃ (i : Nat) (B : Option Addr) (bc : Nat) (zs : List Value), i ≤ m ∧ x = .int .i64 i ∧ Lies wr w.heap.size 49 #[.int .i64 k, .string s, .int .i64 n, .int .i64 a, .slice A m c] ∧ Lies wr (w.heap.size + 1) 24 #[.int .i64 0, .int .i64 0, .string ⟨#[]⟩, .slice none 0 0] ∧ Lies wr (w.heap.size + 1 + 1) 24 #[.int .i64 8, .int .i64 0, .string s, .slice B i bc] ∧
    wr.ownsRow (w.heap.size + 3) 24 4 (.slice B i bc) i zs ∧
    RowTe wr (fun g => w.heap.size + 3 ≤ g ∧ some g ≠ (Value.slice B i bc).ownBlock) (termL b (l.take i)) zs ∧ w.heap.size + 3 ≤ wr.heap.size ∧ Below w.heap.size w wr) (fun x _ => m - (intOf x).toNat)
  case atStart =>
   exact ⟨0, none, 0, [], by omega, rfl, m_t, m_r, m_o, World.ownsRow_nil _ _ _ _, by simpa [termL] using RowTe.nil _ _, m_s, m_b⟩
  case round =>
   clear m_t m_r m_o m_s m_b
   obtain ⟨i, B, bc, zs, hi, rfl, lt, lr, lo, hown, hrow, hsz, hbw⟩ := hrel
   have c4 := lt.five.1.2.2.2.2
   by_cases hlt : i < m
   ·have hia : i < l.length := by omega
    obtain ⟨g, o, Ap, cp, ⟨hA, _⟩, d0, d1, d2, d3, d4, hIn⟩ := LIn.at_ l (LIn.keep l HI.out fun g j _ h => ⟨hbw.cell (p := ⟨g, j, none⟩) h, trivial⟩) i hia
    have hgw : g < w.heap.size := by obtain ⟨g0, o0, A0, c0, ⟨hA0, _⟩, hx0, _⟩ := LIn.at_ l HI.out i hia; rw [hA] at hA0; cases hA0; exact cell_lt hx0
    subst hA
    simp only [Nat.zero_add] at d0 d1 d2 d3 d4
    have hdp := depthL_mem l (l[i]'hia) (List.getElem_mem hia)
    have hokp := okL_mem l (l[i]'hia) (List.getElem_mem hia) HOK.out
    have HS := Lib.hid (termL_take b l i hia)
    obtain ⟨tr, hu⟩ : ∃ tr, tr = l[i]'hia := ⟨_, rfl⟩
    rw [← hu] at d0 d1 d2 d3 d4 hIn hdp hokp HS
    clear hu
    have HRE : Hid (∀ X, Below wr.heap.size wr X → Calls Tryz.prog 52 #[tv tr Ap cp, .slice Ab mb cb] X fun e w' => ∃ A2 c2, e = .returned (ev (termT b tr) A2 c2) ∧ EIn w' (fun g => X.heap.size ≤ g) (termT b tr) A2 ∧ Below X.heap.size X w') := Lib.hid fun X hX =>
     ih tr Ap cp b Ab mb cb X (by omega) hokp HMB.out (by omega) (TIn.below _ hIn hX (Nat.le_refl _)) (SIn.below HB.out (hbw.trans (hX.mono hbw.size)) (Nat.le_refl _)) HAB.out
    obtain ⟨U, hU⟩ : ∃ U, U = termT b tr := ⟨_, rfl⟩
    rw [← hU] at HRE HS
    clear hU
    obtain ⟨uk, un, us, ul⟩ := U
    obtain ⟨pk, ps, pn, pa, pl⟩ := tr
    simp only [ev, tv, Te.kind, Te.n, Te.name, Te.parts, Tr.kind, Tr.name, Tr.n, Tr.place, Tr.parts] at HRE d0 d1 d2 d3 d4
    have hlto := hown.lt
    have HLt := Lib.hid lt
    have HLr := Lib.hid lr
    have HLo := Lib.hid lo
    have HSK : Hid (∀ W : World, (∀ b j, b < w.heap.size + 3 → W.cell? ⟨b, j, none⟩ = wr.cell? ⟨b, j, none⟩) → (fun V' : World => (V'.cell? ⟨w.heap.size, 0, none⟩ = some (.int .i64 k) ∧ V'.cell? ⟨w.heap.size, 1, none⟩ = some (.string s) ∧ V'.cell? ⟨w.heap.size, 2, none⟩ = some (.int .i64 n) ∧ V'.cell? ⟨w.heap.size, 3, none⟩ = some (.int .i64 a) ∧ V'.cell? ⟨w.heap.size, 4, none⟩ = some (.slice (some ⟨g, o, none⟩) m c) ∧ V'.cell? ⟨w.heap.size + 1 + 1, 3, none⟩ = some (.slice B i bc) ∧ V'.cell? ⟨g, o + i * 5, none⟩ = some (.int .i64 pk) ∧ V'.cell? ⟨g, o + i * 5 + 1, none⟩ = some (.string ps) ∧ V'.cell? ⟨g, o + i * 5 + 2, none⟩ = some (.int .i64 pn) ∧ V'.cell? ⟨g, o + i * 5 + 3, none⟩ = some (.int .i64 pa) ∧ V'.cell? ⟨g, o + i * 5 + 4, none⟩ = some (.slice Ap pl.length (capF pl.length cp)))) W) := Lib.hid fun W hW =>
     ⟨(hW _ _ (by omega)).trans (HLt.out.cell 0), (hW _ _ (by omega)).trans (HLt.out.cell 1), (hW _ _ (by omega)).trans (HLt.out.cell 2), (hW _ _ (by omega)).trans (HLt.out.cell 3), (hW _ _ (by omega)).trans (HLt.out.cell 4), (hW _ _ (by omega)).trans (HLo.out.cell 3), (hW _ _ (by omega)).trans d0, (hW _ _ (by omega)).trans d1, (hW _ _ (by omega)).trans d2, (hW _ _ (by omega)).trans d3, (hW _ _ (by omega)).trans d4⟩
    have HSS : Hid (∀ V', Below wr.heap.size wr V' → (fun V' : World => (V'.cell? ⟨w.heap.size, 0, none⟩ = some (.int .i64 k) ∧ V'.cell? ⟨w.heap.size, 1, none⟩ = some (.string s) ∧ V'.cell? ⟨w.heap.size, 2, none⟩ = some (.int .i64 n) ∧ V'.cell? ⟨w.heap.size, 3, none⟩ = some (.int .i64 a) ∧ V'.cell? ⟨w.heap.size, 4, none⟩ = some (.slice (some ⟨g, o, none⟩) m c) ∧ V'.cell? ⟨w.heap.size + 1 + 1, 3, none⟩ = some (.slice B i bc) ∧ V'.cell? ⟨g, o + i * 5, none⟩ = some (.int .i64 pk) ∧ V'.cell? ⟨g, o + i * 5 + 1, none⟩ = some (.string ps) ∧ V'.cell? ⟨g, o + i * 5 + 2, none⟩ = some (.int .i64 pn) ∧ V'.cell? ⟨g, o + i * 5 + 3, none⟩ = some (.int .i64 pa) ∧ V'.cell? ⟨g, o + i * 5 + 4, none⟩ = some (.slice Ap pl.length (capF pl.length cp)))) V') := Lib.hid fun V' h => HSK.out V' fun b j hb => h.cell (p := ⟨b, j, none⟩) (by show b < _; omega)
    have HOW := Lib.hid hown
    have HRO := Lib.hid hrow
    have HBW := Lib.hid hbw
    clear hown hrow hbw hIn d0 d1 d2 d3 d4 lt lr lo hokp hdp
    go_upto_region 29 with fail
    clear c4
    have hb_1 : Below wr.heap.size wr wr := Below.refl _ _
    refine wp_region_K (S := (fun V' : World => (V'.cell? ⟨w.heap.size, 0, none⟩ = some (.int .i64 k) ∧ V'.cell? ⟨w.heap.size, 1, none⟩ = some (.string s) ∧ V'.cell? ⟨w.heap.size, 2, none⟩ = some (.int .i64 n) ∧ V'.cell? ⟨w.heap.size, 3, none⟩ = some (.int .i64 a) ∧ V'.cell? ⟨w.heap.size, 4, none⟩ = some (.slice (some ⟨g, o, none⟩) m c) ∧ V'.cell? ⟨w.heap.size + 1 + 1, 3, none⟩ = some (.slice B i bc) ∧ V'.cell? ⟨g, o + i * 5, none⟩ = some (.int .i64 pk) ∧ V'.cell? ⟨g, o + i * 5 + 1, none⟩ = some (.string ps) ∧ V'.cell? ⟨g, o + i * 5 + 2, none⟩ = some (.int .i64 pn) ∧ V'.cell? ⟨g, o + i * 5 + 3, none⟩ = some (.int .i64 pa) ∧ V'.cell? ⟨g, o + i * 5 + 4, none⟩ = some (.slice Ap pl.length (capF pl.length cp))))) 12 rfl (HSS.out _ hb_1.drew) (fun hSs => ?_)
    change wpAnyK _ _ _ _ _ _ 13 (Array.replicate 13 false) _ _
    refine tkA (i := 0) (oi := ⟨some 143, _, _, _, _, _⟩) (v := .pointer (some ⟨w.heap.size + 1 + 1, 3, none⟩)) hSs ?_
    try go_frame
    refine tkA (i := 1) (oi := ⟨some 144, _, _, _, _, _⟩) (v := .slice B i bc) hSs ?_
    try go_frame
    refine tkA (i := 2) (oi := ⟨some 145, _, _, _, _, _⟩) (v := .pointer (some ⟨w.heap.size, 4, none⟩)) hSs ?_
    try go_frame
    refine tkA (i := 3) (oi := ⟨some 146, _, _, _, _, _⟩) (v := .slice (some ⟨g, o, none⟩) m c) hSs ?_
    try go_frame
    refine tkB (i := 4) (oi := ⟨some 147, _, _, _, _, _⟩) (v := .int .i64 (i : Int)) hSs ?_
    try go_frame
    refine tkA (i := 5) (oi := ⟨some 148, _, _, _, _, _⟩) (v := .pointer (some ⟨g, o + i * 5, none⟩)) hSs ?_
    try go_frame
    refine tkA (i := 6) (oi := ⟨some 149, _, _, _, _, _⟩) (v := .agg #[.int .i64 pk, .string ps, .int .i64 pn, .int .i64 pa, .slice Ap pl.length (capF pl.length cp)]) hSs ?_
    try go_frame
    refine tkB (i := 7) (oi := ⟨some 150, _, _, _, _, _⟩) (v := .slice Ab mb cb) hSs ?_
    try go_frame
    refine wpAnyK_one  (i := 8) rfl rfl (by kernel_rfl) (fun K hK => ?_)
    go_simp
    refine (HRE.out _ (hb_1.drew) ).mono ?_
    rintro e u_2 ⟨A2, c2, rfl, hT_2, hq_2⟩
    have hb_2 := (hb_1.drew).trans (hq_2.mono (hb_1.drew).size)
    have hbr := hb_2
    have hs2 := hbr.size
    have hown2 := own_below HOW.out hbr (Nat.le_refl _)
    have hrow2 := HRO.out.below hbr (Nat.le_refl _)
    refine hK.out _ _ (fun _ => HSS.out _ hb_2) (fun hS9 => ?_)
    have hS_2 := hS9 (by decide)
    clear hK K hS9
    try go_frame
    refine wpAnyK_one  (i := 9) rfl rfl (by kernel_rfl) (fun K hK => ?_)
    go_simp
    have hb_3 := Below.alloc hb_2 hb_2.size (.cells #[.int .i64 uk, .int .i64 un, .string us, .slice A2 ul.length (capF ul.length c2)] 24)
    have hl_3 : Lies (u_2.alloc (.cells #[.int .i64 uk, .int .i64 un, .string us, .slice A2 ul.length (capF ul.length c2)] 24)) (u_2.heap.size) 24 #[.int .i64 uk, .int .i64 un, .string us, .slice A2 ul.length (capF ul.length c2)] := Lies.new _ _ _
    refine hK.out _ _ (fun _ => HSS.out _ hb_3) (fun hS9 => ?_)
    have hS_3 := hS9 (by decide)
    clear hK K hS9
    try go_frame
    refine wpAnyK_one  (i := 10) rfl rfl (by kernel_rfl) (fun K hK => ?_)
    refine wp_append_lies _ _ _ _ rfl (w.heap.size + 3) 24 i0 _ 4 56 Tryz.underlying22 hi0 hz0 hz1 hz2 rfl (by omega) (.slice B i bc) i zs rfl (hown2.alloc _)
     ⟨u_2.heap.size, 0, none⟩ 1 1 [.int .i64 uk, .int .i64 un, .string us, .slice A2 ul.length (capF ul.length c2)] rfl rfl (World.news_of_block (cs := #[.int .i64 uk, .int .i64 un, .string us, .slice A2 ul.length (capF ul.length c2)]) (t := 24) (fr := (0, 0)) (heap_alloc_new u_2 _)) (by simp [Value.oneCell'])
     (by omega) (by simp only [maxLen]; omega) (by omega) (by simp; omega) (u_2.heap.size + 1) (by simp) ?_
    intro gg c3 w3 hown3 hg3 hat hltg
    have K3 : ∀ b j, b < w.heap.size + 3 → w3.cell? ⟨b, j, none⟩ = wr.cell? ⟨b, j, none⟩ := fun b j hb =>
     (World.cell?_of_block (hg3.block b (by simp; omega) (fun e => by have := (hlto b e.symm).1; omega))).trans ((World.cell?_alloc_lt u_2 _ ⟨b, j, none⟩ (by show b < _; omega)).trans (hbr.cell (p := ⟨b, j, none⟩) (by show b < _; omega)))
    refine hK.out _ _ (fun _ => HSK.out _ K3) (fun hS9 => ?_)
    have hS_9 := hS9 (by decide)
    clear hK K hS9
    try go_frame
    refine tkA (i := 11) (oi := ⟨some 154, _, _, _, _, _⟩) (v := .pointer (some ⟨w.heap.size + 1 + 1, 3, none⟩)) hS_9 ?_
    try go_frame
    refine wpAnyK_one  (i := 12) rfl rfl (by kernel_rfl) (fun K hK => ?_)
    have hs3 := hg3.size
    simp at hs3
    have hnb : ∀ b, b < w.heap.size + 3 → some b ≠ (Value.slice B i bc).ownBlock := fun b hb e => by have := (hlto b e.symm).1; omega
    have jt := ((HLt.out.below hbr (by have := HLt.out.lt; omega)).old (.cells #[.int .i64 uk, .int .i64 un, .string us, .slice A2 ul.length (capF ul.length c2)] 24)).grown hg3 (hnb _ (by omega))
    have jr := ((HLr.out.below hbr (by have := HLr.out.lt; omega)).old (.cells #[.int .i64 uk, .int .i64 un, .string us, .slice A2 ul.length (capF ul.length c2)] 24)).grown hg3 (hnb _ (by omega))
    have jo := ((HLo.out.below hbr (by have := HLo.out.lt; omega)).old (.cells #[.int .i64 uk, .int .i64 un, .string us, .slice A2 ul.length (capF ul.length c2)] 24)).grown hg3 (hnb _ (by omega))
    have hB3 : Below w.heap.size w w3 := ((HBW.out.trans (hbr.mono HBW.out.size)).alloc (by have := HBW.out.size; omega) (.cells #[.int .i64 uk, .int .i64 un, .string us, .slice A2 ul.length (capF ul.length c2)] 24)).grown hg3 (by simp; omega) (fun q hq => by have := (hlto q hq).1; omega)
    have e4 := jo.four.1.2.2.2
    have f4 := jo.four.2.2.2.2
    have hfar : ∀ b j, b < u_2.heap.size → some b ≠ (Value.slice B i bc).ownBlock → w3.cell? ⟨b, j, none⟩ = u_2.cell? ⟨b, j, none⟩ ∧ some b ≠ (Value.slice (some ⟨gg, 0, none⟩) (i + 1) c3).ownBlock := fun b j hb hne => by
     refine ⟨(World.cell?_of_block (hg3.block b (by simp; omega) hne)).trans (World.cell?_alloc_lt u_2 _ ⟨b, j, none⟩ hb), fun e => ?_⟩
     have e9 : b = gg := Option.some.inj e
     rcases hat with h | h
     ·exact hne (by rw [h, e9])
     ·omega
    have hrow3 : RowTe w3 (fun g => w.heap.size + 3 ≤ g ∧ some g ≠ (Value.slice (some ⟨gg, 0, none⟩) (i + 1) c3).ownBlock) (termL b (l.take i)) zs :=
     hrow2.keep fun b j hX hb => ⟨(hfar b j hb hX.2).1, hX.1, (hfar b j hb hX.2).2⟩
    have hT3 : EIn w3 (fun g => w.heap.size + 3 ≤ g ∧ some g ≠ (Value.slice (some ⟨gg, 0, none⟩) (i + 1) c3).ownBlock) (.node uk un us ul) A2 :=
     EIn.keep _ hT_2 fun b j hX hb => by
      have hX' : wr.heap.size ≤ b := hX
      have hne : some b ≠ (Value.slice B i bc).ownBlock := fun e => by have := (hlto b e.symm).2; omega
      exact ⟨(hfar b j hb hne).1, by omega, (hfar b j hb hne).2⟩
    clear hi0 hz0 hz1 hz2 hg3 hat hown2 hrow2 hfar hT_2 K3
    go_wp2_with fail
    refine hK.out _ _ (fun h => absurd rfl h) (fun _ => ?_)
    clear hK K
    try go_frame
    refine wpAnyK_done (by kernel_rfl) ?_ _
    go_wp2_with fail
    go_roundw
    case rel =>
     refine ⟨i + 1, some ⟨gg, 0, none⟩, c3, zs ++ [.int .i64 uk, .int .i64 un, .string us, .slice A2 ul.length (capF ul.length c2)], by omega, by go_num, jt.far (by simp <;> omega) _, jr.far (by simp <;> omega) _, by simpa using jo.put 3 (.slice (some ⟨gg, 0, none⟩) (i + 1) c3), ?_, ?_, by simp [World.setCell]; omega, hB3.setCell (by show w.heap.size ≤ w.heap.size + 1 + 1; omega) _⟩
     ·exact ownsRow_setCell_below hown3 (by show w.heap.size + 1 + 1 < _; omega) _
     ·rw [HS.out]
      exact (hrow3.snoc (c := c2) hT3).setCell _ _ (fun h => by have h9 : w.heap.size + 3 ≤ w.heap.size + 1 + 1 := h.1; omega)
    case measure => simp [intOf]; omega
   ·have e0 := lo.four.1.1
    have e1' := lo.four.1.2.1
    have e2' := lo.four.1.2.2.1
    have e3' := lo.four.1.2.2.2
    obtain ⟨⟨z0, z1, z2, z3⟩, f0, f1, f2, f3⟩ := lr.four
    go_wp2_with fail
    obtain rfl : i = m := by omega
    rw [List.take_of_length_le (by omega)] at hrow
    have hbl2 := termL_len b l
    have hil : i = l.length := by omega
    refine bodyPost_ret (res_term (p := 4) Tryz.results52 rfl (lr.all _ _ _ _)) rfl ?_
    rw [HE.out, HKK.out]
    refine ⟨B, bc, ?_, ?_, ?_⟩
    ·rw [ev]
     simp only [Te.kind, Te.n, Te.name, Te.parts, hbl2]
     rw [capF_of (show l.length ≤ bc by have := own_le hown; omega), hil]
    ·refine ein_mk hss (by decide) (by decide) (by omega) ?_
     have hL := hrow.owned (Y := fun g => w.heap.size + 3 ≤ g) hown (fun g hg => hg) (fun g hg _ => hg.1)
     refine ELIn.keep _ hL fun g j hg _ => ⟨?_, by omega⟩
     have hne : ∀ q u, (⟨w.heap.size + 1, q, none⟩ : Addr) ≠ ⟨g, u, none⟩ := fun q u e => by injection e with e; omega
     rw [World.cell?_setCell_other _ _ _ _ (hne _ _), World.cell?_setCell_other _ _ _ _ (hne _ _), World.cell?_setCell_other _ _ _ _ (hne _ _), World.cell?_setCell_other _ _ _ _ (hne _ _)]
    ·exact Below.all hbw (by omega) _ _ _ _
 ·have e7 : (k == 7) = false := by simp; omega
  have e10 : (k == 10) = false := by simp; omega
  have HKK : Hid (kind7 k = 4) := Lib.hid (by simp only [kind7]; rw [if_neg hk', if_neg hk])
  obtain ⟨m_b, m_t, m_r, m_o, m_s⟩ := HMK.out 4
  clear HMK hk hk'
  go_enter Tryz.func52, Tryz.ntmps52
  go_wp2_with fail
  go_loopw [8] (fun x wr => ∃ (i : Nat) (B : Option Addr) (bc : Nat) (zs : List Value), i ≤ m ∧ x = .int .i64 i ∧ Lies wr w.heap.size 49 #[.int .i64 k, .string s, .int .i64 n, .int .i64 a, .slice A m c] ∧ Lies wr (w.heap.size + 1) 24 #[.int .i64 0, .int .i64 0, .string ⟨#[]⟩, .slice none 0 0] ∧ Lies wr (w.heap.size + 1 + 1) 24 #[.int .i64 4, .int .i64 0, .string s, .slice B i bc] ∧
    wr.ownsRow (w.heap.size + 3) 24 4 (.slice B i bc) i zs ∧
    RowTe wr (fun g => w.heap.size + 3 ≤ g ∧ some g ≠ (Value.slice B i bc).ownBlock) (termL b (l.take i)) zs ∧ w.heap.size + 3 ≤ wr.heap.size ∧ Below w.heap.size w wr) (fun x _ => m - (intOf x).toNat)
  case atStart =>
   exact ⟨0, none, 0, [], by omega, rfl, m_t, m_r, m_o, World.ownsRow_nil _ _ _ _, by simpa [termL] using RowTe.nil _ _, m_s, m_b⟩
  case round =>
   clear m_t m_r m_o m_s m_b
   obtain ⟨i, B, bc, zs, hi, rfl, lt, lr, lo, hown, hrow, hsz, hbw⟩ := hrel
   have c4 := lt.five.1.2.2.2.2
   by_cases hlt : i < m
   ·have hia : i < l.length := by omega
    obtain ⟨g, o, Ap, cp, ⟨hA, _⟩, d0, d1, d2, d3, d4, hIn⟩ := LIn.at_ l (LIn.keep l HI.out fun g j _ h => ⟨hbw.cell (p := ⟨g, j, none⟩) h, trivial⟩) i hia
    have hgw : g < w.heap.size := by obtain ⟨g0, o0, A0, c0, ⟨hA0, _⟩, hx0, _⟩ := LIn.at_ l HI.out i hia; rw [hA] at hA0; cases hA0; exact cell_lt hx0
    subst hA
    simp only [Nat.zero_add] at d0 d1 d2 d3 d4
    have hdp := depthL_mem l (l[i]'hia) (List.getElem_mem hia)
    have hokp := okL_mem l (l[i]'hia) (List.getElem_mem hia) HOK.out
    have HS := Lib.hid (termL_take b l i hia)
    obtain ⟨tr, hu⟩ : ∃ tr, tr = l[i]'hia := ⟨_, rfl⟩
    rw [← hu] at d0 d1 d2 d3 d4 hIn hdp hokp HS
    clear hu
    have HRE : Hid (∀ X, Below wr.heap.size wr X → Calls Tryz.prog 52 #[tv tr Ap cp, .slice Ab mb cb] X fun e w' => ∃ A2 c2, e = .returned (ev (termT b tr) A2 c2) ∧ EIn w' (fun g => X.heap.size ≤ g) (termT b tr) A2 ∧ Below X.heap.size X w') := Lib.hid fun X hX =>
     ih tr Ap cp b Ab mb cb X (by omega) hokp HMB.out (by omega) (TIn.below _ hIn hX (Nat.le_refl _)) (SIn.below HB.out (hbw.trans (hX.mono hbw.size)) (Nat.le_refl _)) HAB.out
    obtain ⟨U, hU⟩ : ∃ U, U = termT b tr := ⟨_, rfl⟩
    rw [← hU] at HRE HS
    clear hU
    obtain ⟨uk, un, us, ul⟩ := U
    obtain ⟨pk, ps, pn, pa, pl⟩ := tr
    simp only [ev, tv, Te.kind, Te.n, Te.name, Te.parts, Tr.kind, Tr.name, Tr.n, Tr.place, Tr.parts] at HRE d0 d1 d2 d3 d4
    have hlto := hown.lt
    have HLt := Lib.hid lt
    have HLr := Lib.hid lr
    have HLo := Lib.hid lo
    have HSK : Hid (∀ W : World, (∀ b j, b < w.heap.size + 3 → W.cell? ⟨b, j, none⟩ = wr.cell? ⟨b, j, none⟩) → (fun V' : World => (V'.cell? ⟨w.heap.size, 0, none⟩ = some (.int .i64 k) ∧ V'.cell? ⟨w.heap.size, 1, none⟩ = some (.string s) ∧ V'.cell? ⟨w.heap.size, 2, none⟩ = some (.int .i64 n) ∧ V'.cell? ⟨w.heap.size, 3, none⟩ = some (.int .i64 a) ∧ V'.cell? ⟨w.heap.size, 4, none⟩ = some (.slice (some ⟨g, o, none⟩) m c) ∧ V'.cell? ⟨w.heap.size + 1 + 1, 3, none⟩ = some (.slice B i bc) ∧ V'.cell? ⟨g, o + i * 5, none⟩ = some (.int .i64 pk) ∧ V'.cell? ⟨g, o + i * 5 + 1, none⟩ = some (.string ps) ∧ V'.cell? ⟨g, o + i * 5 + 2, none⟩ = some (.int .i64 pn) ∧ V'.cell? ⟨g, o + i * 5 + 3, none⟩ = some (.int .i64 pa) ∧ V'.cell? ⟨g, o + i * 5 + 4, none⟩ = some (.slice Ap pl.length (capF pl.length cp)))) W) := Lib.hid fun W hW =>
     ⟨(hW _ _ (by omega)).trans (HLt.out.cell 0), (hW _ _ (by omega)).trans (HLt.out.cell 1), (hW _ _ (by omega)).trans (HLt.out.cell 2), (hW _ _ (by omega)).trans (HLt.out.cell 3), (hW _ _ (by omega)).trans (HLt.out.cell 4), (hW _ _ (by omega)).trans (HLo.out.cell 3), (hW _ _ (by omega)).trans d0, (hW _ _ (by omega)).trans d1, (hW _ _ (by omega)).trans d2, (hW _ _ (by omega)).trans d3, (hW _ _ (by omega)).trans d4⟩
    have HSS : Hid (∀ V', Below wr.heap.size wr V' → (fun V' : World => (V'.cell? ⟨w.heap.size, 0, none⟩ = some (.int .i64 k) ∧ V'.cell? ⟨w.heap.size, 1, none⟩ = some (.string s) ∧ V'.cell? ⟨w.heap.size, 2, none⟩ = some (.int .i64 n) ∧ V'.cell? ⟨w.heap.size, 3, none⟩ = some (.int .i64 a) ∧ V'.cell? ⟨w.heap.size, 4, none⟩ = some (.slice (some ⟨g, o, none⟩) m c) ∧ V'.cell? ⟨w.heap.size + 1 + 1, 3, none⟩ = some (.slice B i bc) ∧ V'.cell? ⟨g, o + i * 5, none⟩ = some (.int .i64 pk) ∧ V'.cell? ⟨g, o + i * 5 + 1, none⟩ = some (.string ps) ∧ V'.cell? ⟨g, o + i * 5 + 2, none⟩ = some (.int .i64 pn) ∧ V'.cell? ⟨g, o + i * 5 + 3, none⟩ = some (.int .i64 pa) ∧ V'.cell? ⟨g, o + i * 5 + 4, none⟩ = some (.slice Ap pl.length (capF pl.length cp)))) V') := Lib.hid fun V' h => HSK.out V' fun b j hb => h.cell (p := ⟨b, j, none⟩) (by show b < _; omega)
    have HOW := Lib.hid hown
    have HRO := Lib.hid hrow
    have HBW := Lib.hid hbw
    clear hown hrow hbw hIn d0 d1 d2 d3 d4 lt lr lo hokp hdp
    go_upto_region 29 with fail
    clear c4
    have hb_1 : Below wr.heap.size wr wr := Below.refl _ _
    refine wp_region_K (S := (fun V' : World => (V'.cell? ⟨w.heap.size, 0, none⟩ = some (.int .i64 k) ∧ V'.cell? ⟨w.heap.size, 1, none⟩ = some (.string s) ∧ V'.cell? ⟨w.heap.size, 2, none⟩ = some (.int .i64 n) ∧ V'.cell? ⟨w.heap.size, 3, none⟩ = some (.int .i64 a) ∧ V'.cell? ⟨w.heap.size, 4, none⟩ = some (.slice (some ⟨g, o, none⟩) m c) ∧ V'.cell? ⟨w.heap.size + 1 + 1, 3, none⟩ = some (.slice B i bc) ∧ V'.cell? ⟨g, o + i * 5, none⟩ = some (.int .i64 pk) ∧ V'.cell? ⟨g, o + i * 5 + 1, none⟩ = some (.string ps) ∧ V'.cell? ⟨g, o + i * 5 + 2, none⟩ = some (.int .i64 pn) ∧ V'.cell? ⟨g, o + i * 5 + 3, none⟩ = some (.int .i64 pa) ∧ V'.cell? ⟨g, o + i * 5 + 4, none⟩ = some (.slice Ap pl.length (capF pl.length cp))))) 12 rfl (HSS.out _ hb_1.drew) (fun hSs => ?_)
    change wpAnyK _ _ _ _ _ _ 13 (Array.replicate 13 false) _ _
    refine tkA (i := 0) (oi := ⟨some 143, _, _, _, _, _⟩) (v := .pointer (some ⟨w.heap.size + 1 + 1, 3, none⟩)) hSs ?_
    try go_frame
    refine tkA (i := 1) (oi := ⟨some 144, _, _, _, _, _⟩) (v := .slice B i bc) hSs ?_
    try go_frame
    refine tkA (i := 2) (oi := ⟨some 145, _, _, _, _, _⟩) (v := .pointer (some ⟨w.heap.size, 4, none⟩)) hSs ?_
    try go_frame
    refine tkA (i := 3) (oi := ⟨some 146, _, _, _, _, _⟩) (v := .slice (some ⟨g, o, none⟩) m c) hSs ?_
    try go_frame
    refine tkB (i := 4) (oi := ⟨some 147, _, _, _, _, _⟩) (v := .int .i64 (i : Int)) hSs ?_
    try go_frame
    refine tkA (i := 5) (oi := ⟨some 148, _, _, _, _, _⟩) (v := .pointer (some ⟨g, o + i * 5, none⟩)) hSs ?_
    try go_frame
    refine tkA (i := 6) (oi := ⟨some 149, _, _, _, _, _⟩) (v := .agg #[.int .i64 pk, .string ps, .int .i64 pn, .int .i64 pa, .slice Ap pl.length (capF pl.length cp)]) hSs ?_
    try go_frame
    refine tkB (i := 7) (oi := ⟨some 150, _, _, _, _, _⟩) (v := .slice Ab mb cb) hSs ?_
    try go_frame
    refine wpAnyK_one  (i := 8) rfl rfl (by kernel_rfl) (fun K hK => ?_)
    go_simp
    refine (HRE.out _ (hb_1.drew) ).mono ?_
    rintro e u_2 ⟨A2, c2, rfl, hT_2, hq_2⟩
    have hb_2 := (hb_1.drew).trans (hq_2.mono (hb_1.drew).size)
    have hbr := hb_2
    have hs2 := hbr.size
    have hown2 := own_below HOW.out hbr (Nat.le_refl _)
    have hrow2 := HRO.out.below hbr (Nat.le_refl _)
    refine hK.out _ _ (fun _ => HSS.out _ hb_2) (fun hS9 => ?_)
    have hS_2 := hS9 (by decide)
    clear hK K hS9
    try go_frame
    refine wpAnyK_one  (i := 9) rfl rfl (by kernel_rfl) (fun K hK => ?_)
    go_simp
    have hb_3 := Below.alloc hb_2 hb_2.size (.cells #[.int .i64 uk, .int .i64 un, .string us, .slice A2 ul.length (capF ul.length c2)] 24)
    have hl_3 : Lies (u_2.alloc (.cells #[.int .i64 uk, .int .i64 un, .string us, .slice A2 ul.length (capF ul.length c2)] 24)) (u_2.heap.size) 24 #[.int .i64 uk, .int .i64 un, .string us, .slice A2 ul.length (capF ul.length c2)] := Lies.new _ _ _
    refine hK.out _ _ (fun _ => HSS.out _ hb_3) (fun hS9 => ?_)
    have hS_3 := hS9 (by decide)
    clear hK K hS9
    try go_frame
    refine wpAnyK_one  (i := 10) rfl rfl (by kernel_rfl) (fun K hK => ?_)
    refine wp_append_lies _ _ _ _ rfl (w.heap.size + 3) 24 i0 _ 4 56 Tryz.underlying22 hi0 hz0 hz1 hz2 rfl (by omega) (.slice B i bc) i zs rfl (hown2.alloc _)
     ⟨u_2.heap.size, 0, none⟩ 1 1 [.int .i64 uk, .int .i64 un, .string us, .slice A2 ul.length (capF ul.length c2)] rfl rfl (World.news_of_block (cs := #[.int .i64 uk, .int .i64 un, .string us, .slice A2 ul.length (capF ul.length c2)]) (t := 24) (fr := (0, 0)) (heap_alloc_new u_2 _)) (by simp [Value.oneCell'])
     (by omega) (by simp only [maxLen]; omega) (by omega) (by simp; omega) (u_2.heap.size + 1) (by simp) ?_
    intro gg c3 w3 hown3 hg3 hat hltg
    have K3 : ∀ b j, b < w.heap.size + 3 → w3.cell? ⟨b, j, none⟩ = wr.cell? ⟨b, j, none⟩ := fun b j hb =>
     (World.cell?_of_block (hg3.block b (by simp; omega) (fun e => by have := (hlto b e.symm).1; omega))).trans ((World.cell?_alloc_lt u_2 _ ⟨b, j, none⟩ (by show b < _; omega)).trans (hbr.cell (p := ⟨b, j, none⟩) (by show b < _; omega)))
    refine hK.out _ _ (fun _ => HSK.out _ K3) (fun hS9 => ?_)
    have hS_9 := hS9 (by decide)
    clear hK K hS9
    try go_frame
    refine tkA (i := 11) (oi := ⟨some 154, _, _, _, _, _⟩) (v := .pointer (some ⟨w.heap.size + 1 + 1, 3, none⟩)) hS_9 ?_
    try go_frame
    refine wpAnyK_one  (i := 12) rfl rfl (by kernel_rfl) (fun K hK => ?_)
    have hs3 := hg3.size
    simp at hs3
    have hnb : ∀ b, b < w.heap.size + 3 → some b ≠ (Value.slice B i bc).ownBlock := fun b hb e => by have := (hlto b e.symm).1; omega
    have jt := ((HLt.out.below hbr (by have := HLt.out.lt; omega)).old (.cells #[.int .i64 uk, .int .i64 un, .string us, .slice A2 ul.length (capF ul.length c2)] 24)).grown hg3 (hnb _ (by omega))
    have jr := ((HLr.out.below hbr (by have := HLr.out.lt; omega)).old (.cells #[.int .i64 uk, .int .i64 un, .string us, .slice A2 ul.length (capF ul.length c2)] 24)).grown hg3 (hnb _ (by omega))
    have jo := ((HLo.out.below hbr (by have := HLo.out.lt; omega)).old (.cells #[.int .i64 uk, .int .i64 un, .string us, .slice A2 ul.length (capF ul.length c2)] 24)).grown hg3 (hnb _ (by omega))
    have hB3 : Below w.heap.size w w3 := ((HBW.out.trans (hbr.mono HBW.out.size)).alloc (by have := HBW.out.size; omega) (.cells #[.int .i64 uk, .int .i64 un, .string us, .slice A2 ul.length (capF ul.length c2)] 24)).grown hg3 (by simp; omega) (fun q hq => by have := (hlto q hq).1; omega)
    have e4 := jo.four.1.2.2.2
    have f4 := jo.four.2.2.2.2
    have hfar : ∀ b j, b < u_2.heap.size → some b ≠ (Value.slice B i bc).ownBlock → w3.cell? ⟨b, j, none⟩ = u_2.cell? ⟨b, j, none⟩ ∧ some b ≠ (Value.slice (some ⟨gg, 0, none⟩) (i + 1) c3).ownBlock := fun b j hb hne => by
     refine ⟨(World.cell?_of_block (hg3.block b (by simp; omega) hne)).trans (World.cell?_alloc_lt u_2 _ ⟨b, j, none⟩ hb), fun e => ?_⟩
     have e9 : b = gg := Option.some.inj e
     rcases hat with h | h
     ·exact hne (by rw [h, e9])
     ·omega
    have hrow3 : RowTe w3 (fun g => w.heap.size + 3 ≤ g ∧ some g ≠ (Value.slice (some ⟨gg, 0, none⟩) (i + 1) c3).ownBlock) (termL b (l.take i)) zs :=
     hrow2.keep fun b j hX hb => ⟨(hfar b j hb hX.2).1, hX.1, (hfar b j hb hX.2).2⟩
    have hT3 : EIn w3 (fun g => w.heap.size + 3 ≤ g ∧ some g ≠ (Value.slice (some ⟨gg, 0, none⟩) (i + 1) c3).ownBlock) (.node uk un us ul) A2 :=
     EIn.keep _ hT_2 fun b j hX hb => by
      have hX' : wr.heap.size ≤ b := hX
      have hne : some b ≠ (Value.slice B i bc).ownBlock := fun e => by have := (hlto b e.symm).2; omega
      exact ⟨(hfar b j hb hne).1, by omega, (hfar b j hb hne).2⟩
    clear hi0 hz0 hz1 hz2 hg3 hat hown2 hrow2 hfar hT_2 K3
    go_wp2_with fail
    refine hK.out _ _ (fun h => absurd rfl h) (fun _ => ?_)
    clear hK K
    try go_frame
    refine wpAnyK_done (by kernel_rfl) ?_ _
    go_wp2_with fail
    go_roundw
    case rel =>
     refine ⟨i + 1, some ⟨gg, 0, none⟩, c3, zs ++ [.int .i64 uk, .int .i64 un, .string us, .slice A2 ul.length (capF ul.length c2)], by omega, by go_num, jt.far (by simp <;> omega) _, jr.far (by simp <;> omega) _, by simpa using jo.put 3 (.slice (some ⟨gg, 0, none⟩) (i + 1) c3), ?_, ?_, by simp [World.setCell]; omega, hB3.setCell (by show w.heap.size ≤ w.heap.size + 1 + 1; omega) _⟩
     ·exact ownsRow_setCell_below hown3 (by show w.heap.size + 1 + 1 < _; omega) _
     ·rw [HS.out]
      exact (hrow3.snoc (c := c2) hT3).setCell _ _ (fun h => by have h9 : w.heap.size + 3 ≤ w.heap.size + 1 + 1 := h.1; omega)
    case measure => simp [intOf]; omega
   ·have e0 := lo.four.1.1
    have e1' := lo.four.1.2.1
    have e2' := lo.four.1.2.2.1
    have e3' := lo.four.1.2.2.2
    obtain ⟨⟨z0, z1, z2, z3⟩, f0, f1, f2, f3⟩ := lr.four
    go_wp2_with fail
    obtain rfl : i = m := by omega
    rw [List.take_of_length_le (by omega)] at hrow
    have hbl2 := termL_len b l
    have hil : i = l.length := by omega
    refine bodyPost_ret (res_term (p := 4) Tryz.results52 rfl (lr.all _ _ _ _)) rfl ?_
    rw [HE.out, HKK.out]
    refine ⟨B, bc, ?_, ?_, ?_⟩
    ·rw [ev]
     simp only [Te.kind, Te.n, Te.name, Te.parts, hbl2]
     rw [capF_of (show l.length ≤ bc by have := own_le hown; omega), hil]
    ·refine ein_mk hss (by decide) (by decide) (by omega) ?_
     have hL := hrow.owned (Y := fun g => w.heap.size + 3 ≤ g) hown (fun g hg => hg) (fun g hg _ => hg.1)
     refine ELIn.keep _ hL fun g j hg _ => ⟨?_, by omega⟩
     have hne : ∀ q u, (⟨w.heap.size + 1, q, none⟩ : Addr) ≠ ⟨g, u, none⟩ := fun q u e => by injection e with e; omega
     rw [World.cell?_setCell_other _ _ _ _ (hne _ _), World.cell?_setCell_other _ _ _ _ (hne _ _), World.cell?_setCell_other _ _ _ _ (hne _ _), World.cell?_setCell_other _ _ _ _ (hne _ _)]
    ·exact Below.all hbw (by omega) _ _ _ _
theorem term7_any (d : Nat) : Term7 d := by
 induction d with
 | zero => intro t A c b Ab mb cb w h; cases t; rw [depthT] at h; omega
 | succ d ih =>
  intro t A c b Ab mb cb w hd hok hmb hbl hI hB hAb
  obtain ⟨k, s, n, a, l⟩ := t
  have hdL : depthL l ≤ d := by rw [depthT] at hd; omega
  rw [okT] at hok
  rw [TIn] at hI
  obtain ⟨⟨h8, h1, h2, h3, h9, hn, hl⟩, hokl⟩ := hok
  show Calls Tryz.prog 52 #[.agg #[.int .i64 k, .string s, .int .i64 n, .int .i64 a, .slice A l.length (capF l.length c)], .slice Ab mb cb] w _
  generalize capF l.length c = c
  by_cases k1 : k = 1
  ·subst k1; exact term7_k1 ih n a s l A _ c b Ab mb cb w rfl (by omega) hdL hokl hI.1 hmb hbl hI.2.2 hB hAb
  by_cases k2 : k = 2
  ·subst k2; exact term7_k2 ih n a s l A _ c b Ab mb cb w rfl (h2 rfl).1 hdL hokl hI.1 hmb hbl hI.2.2 hB hAb
  by_cases k3 : k = 3
  ·subst k3; exact term7_k3 ih n a s l A _ c b Ab mb cb w rfl (h3 (.inl rfl)).1 hdL hokl hI.1 hmb hbl hI.2.2 hB hAb
  by_cases k4 : k = 4
  ·subst k4; exact term7_k4 ih n a s l A _ c b Ab mb cb w rfl (h3 (.inr (.inl rfl))).1 hdL hokl hI.1 hmb hbl hI.2.2 hB hAb
  by_cases k5 : k = 5
  ·subst k5; exact term7_k5 ih n a s l A _ c b Ab mb cb w rfl (h3 (.inr (.inr (.inl rfl)))).1 hdL hokl hI.1 hmb hbl hI.2.2 hB hAb
  by_cases k8 : k = 8
  ·subst k8; exact term7_k8 ih n a s l A _ c b Ab mb cb w rfl (h8 rfl).2 (h8 rfl).1 hl hdL hokl hI.1 hmb hbl hI.2.2 hB hAb
  by_cases k9 : k = 9
  ·subst k9; exact term7_k9 ih n a s l A _ c b Ab mb cb w rfl (by omega) (h9 rfl).2.1 (h9 rfl).2.2 hdL hokl hI.1 hmb hbl hI.2.2 hB hAb
  exact term7_con ih k n a s l A _ c b Ab mb cb w rfl hl ⟨k1, k2, k3, k4, k5, k8, k9⟩ hdL hokl hI.1 hmb hbl hI.2.2 hB hAb
set_option maxHeartbeats 4000000 in
theorem within5_any (k n a : Int) (s : ByteArray) (l : List Tr) (A : Option Addr) (m c : Nat) (i : Nat) (b : List ByteArray) (Ab : Option Addr) (mb cb : Nat) (w : World) (hm : m = l.length) (hm9 : m ≤ 10000) (h8 : k = 8 → 0 ≤ n ∧ n ≤ m) (hmb : mb = b.length) (hb9 : mb ≤ 80000)
  (hI : LIn w Any l A 0) (hB : SIn w Any b Ab) (hAb : Ab = none → cb = 0) :
  Calls Tryz.prog 114 #[.agg #[.int .i64 k, .string s, .int .i64 n, .int .i64 a, .slice A m c], .int .i64 i, .slice Ab mb cb] w (SGive (innerN k n s i l b) w) := by
 have hb : Below w.heap.size w (w.alloc (.cells #[.int .i64 k, .string s, .int .i64 n, .int .i64 a, .slice A m c] 49)) := (Below.refl _ w).alloc (Nat.le_refl _) _
 have hL := Lies.new w 49 #[.int .i64 k, .string s, .int .i64 n, .int .i64 a, .slice A m c]
 have HW := Lib.hid (with5_any b s Ab mb cb (w.alloc (.cells #[.int .i64 k, .string s, .int .i64 n, .int .i64 a, .slice A m c] 49)) hmb (by omega) (hB.below hb (Nat.le_refl _)) hAb)
 have HM := Lib.hid hmb
 have HNO : Hid (SGive b w (.returned (.slice Ab mb cb)) (w.alloc (.cells #[.int .i64 k, .string s, .int .i64 n, .int .i64 a, .slice A m c] 49))) := Lib.hid ⟨Ab, cb, by rw [hmb], (hB.below hb (Nat.le_refl _)).any, hAb, hb⟩
 rcases (by omega : k = 2 ∨ k = 5 ∨ (k = 4 ∧ i = 1) ∨ (k = 4 ∧ i ≠ 1) ∨ k = 8 ∨ (k ≠ 2 ∧ k ≠ 5 ∧ k ≠ 4 ∧ k ≠ 8)) with rfl | rfl | ⟨rfl, rfl⟩ | ⟨rfl, hi⟩ | rfl | ⟨h2, h5, h4, h8'⟩
 ·have HE : Hid (innerN 2 n s i l b = b ++ [s]) := Lib.hid rfl
  clear h8 hI hB hL hmb HNO HM hm
  go_enter Tryz.func114, Tryz.ntmps114
  go_wp2_with fail
  refine HW.out.mono ?_
  rintro e w2 ⟨A2, c2, rfl, hS2, hA2, hb2⟩
  have hbw := hb.trans (hb2.mono hb.size)
  rw [← HE.out] at hS2 ⊢
  obtain ⟨L, hLL⟩ : ∃ L, L = innerN 2 n s i l b := ⟨_, rfl⟩
  rw [← hLL] at hS2 ⊢
  have HLL := Lib.hid hLL
  clear hLL
  go_wp2_with fail
  go_ret
  exact ⟨A2, c2, by rw [← HLL.out]; rfl, by rw [← HLL.out]; exact hS2, hA2, hbw⟩
 ·have HE : Hid (innerN 5 n s i l b = b ++ [s]) := Lib.hid rfl
  clear h8 hI hB hL hmb HNO HM hm
  go_enter Tryz.func114, Tryz.ntmps114
  go_wp2_with fail
  refine HW.out.mono ?_
  rintro e w2 ⟨A2, c2, rfl, hS2, hA2, hb2⟩
  have hbw := hb.trans (hb2.mono hb.size)
  rw [← HE.out] at hS2 ⊢
  obtain ⟨L, hLL⟩ : ∃ L, L = innerN 5 n s i l b := ⟨_, rfl⟩
  rw [← hLL] at hS2 ⊢
  have HLL := Lib.hid hLL
  clear hLL
  go_wp2_with fail
  go_ret
  exact ⟨A2, c2, by rw [← HLL.out]; rfl, by rw [← HLL.out]; exact hS2, hA2, hbw⟩
 ·have HE : Hid (innerN 4 n s 1 l b = b ++ [s]) := Lib.hid rfl
  clear h8 hI hB hL hmb HNO HM hm
  go_enter Tryz.func114, Tryz.ntmps114
  go_wp2_with fail
  refine HW.out.mono ?_
  rintro e w2 ⟨A2, c2, rfl, hS2, hA2, hb2⟩
  have hbw := hb.trans (hb2.mono hb.size)
  rw [← HE.out] at hS2 ⊢
  obtain ⟨L, hLL⟩ : ∃ L, L = innerN 4 n s 1 l b := ⟨_, rfl⟩
  rw [← hLL] at hS2 ⊢
  have HLL := Lib.hid hLL
  clear hLL
  go_wp2_with fail
  go_ret
  exact ⟨A2, c2, by rw [← HLL.out]; rfl, by rw [← HLL.out]; exact hS2, hA2, hbw⟩
 ·have HE : Hid (innerN 4 n s i l b = b) := Lib.hid (by simp [innerN, hi])
  have hi1 : ((i : Int) == 1) = false := by simp; omega
  clear h8 hI hB hL hmb HM hm hi HW
  go_enter Tryz.func114, Tryz.ntmps114
  go_wp2_with fail
  go_ret
  rw [HE.out]
  exact HNO.out
 ·obtain ⟨h0, hn⟩ := h8 rfl
  have HE : Hid (innerN 8 n s i l b = b ++ varsN n l) := Lib.hid rfl
  have hm1 : m ≤ l.length := by omega
  have HI := Lib.hid hI
  have HV : Hid (((varsN n l).length : Int) = n) := Lib.hid (varsN_len l n h0 (by omega))
  have HVA : Hid (∀ (i : Nat) (hi : (i : Int) < n) (hl : i < l.length), (varsN n l).take (i + 1) = (varsN n l).take i ++ [(l[i]'hl).name]) := Lib.hid (varsN_take l n h0)
  have HS0 := Lib.hid (hB.below hb (Nat.le_refl _)).any
  have HA0 := Lib.hid hAb
  clear hI hm hB hAb hmb HW HNO
  go_enter Tryz.func114, Tryz.ntmps114
  go_wp2_with fail
  go_loopw [2, 7] (fun v x wr => ∃ (q : Nat) (A2 : Option Addr) (m2 c2 : Nat), (q : Int) ≤ n ∧ x = .int .i64 q ∧ v = .slice A2 m2 c2 ∧ m2 = mb + q ∧ Hid (SIn wr Any (b ++ (varsN n l).take q) A2 ∧ (A2 = none → c2 = 0)) ∧ Lies wr w.heap.size 49 #[.int .i64 8, .string s, .int .i64 n, .int .i64 a, .slice A m c] ∧ Below w.heap.size w wr) (fun _ x _ => n.toNat - (intOf x).toNat)
  case atStart => exact ⟨0, Ab, mb, cb, by omega, rfl, rfl, rfl, Lib.hid ⟨by simpa using HS0.out, HA0.out⟩, hL, hb⟩
  case round =>
   obtain ⟨q, A2, m2, c2, hq, rfl, rfl, hm2, HS, hLr, hbw⟩ := hrel
   have hbs := hbw.size
   have c2' := hLr.five.1.2.2.1
   by_cases hlt : (q : Int) < n
   ·have hqa : q < l.length := by omega
    have hqm : q < m := by omega
    obtain ⟨g, o, A', c', ⟨hA, _⟩, d0, d1, d2, d3, d4, _⟩ := LIn.at_ l (LIn.keep l HI.out fun g j _ h => ⟨hbw.cell (p := ⟨g, j, none⟩) h, trivial⟩) q hqa
    subst hA
    simp only [Nat.zero_add] at d1
    have HN1 : Hid ((varsN n l).take (q + 1) = (varsN n l).take q ++ [(l[q]'hqa).name]) := Lib.hid (HVA.out q hlt hqa)
    obtain ⟨x, hx⟩ : ∃ x, x = (l[q]'hqa).name := ⟨_, rfl⟩
    rw [← hx] at d1 HN1
    clear hx d0 d2 d3 d4
    have c4 := hLr.five.1.2.2.2.2
    have hvl : ((varsN n l).take q).length = q := by have := HV.out; rw [List.length_take]; omega
    have HC := Lib.hid (with5_any (b ++ (varsN n l).take q) x A2 m2 c2 wr (by rw [List.length_append, hvl, ← HM.out]; exact hm2) (by omega) HS.out.1 HS.out.2)
    have HL9 : Hid (((b ++ (varsN n l).take q) ++ [x]).length = mb + (q + 1)) := Lib.hid (by rw [List.length_append, List.length_append, hvl, List.length_singleton, HM.out]; omega)
    have HQ9 : Hid ((b ++ (varsN n l).take q) ++ [x] = b ++ (varsN n l).take (q + 1)) := Lib.hid (by rw [HN1.out, List.append_assoc])
    clear hvl hm2
    go_wp2_with fail
    refine HC.out.mono ?_
    rintro e w2 ⟨A3, c3, rfl, hS3, hA3, hb3⟩
    have hL3 := hLr.below hb3 hLr.lt
    have hbw3 := hbw.trans (hb3.mono hbs)
    have HS3 : Hid (SIn w2 Any (b ++ (varsN n l).take (q + 1)) A3 ∧ (A3 = none → c3 = 0)) := Lib.hid ⟨by rw [← HQ9.out]; exact hS3, hA3⟩
    rw [HL9.out]
    clear hS3 hA3 hb3 hLr hbw hbs HC c4 c2' d1
    go_wp2_with fail
    go_roundw
    case rel => exact ⟨q + 1, A3, _, c3, by omega, by go_num, rfl, rfl, HS3, hL3, hbw3⟩
    case measure => simp [intOf]; omega
   ·go_wp2_with fail
    go_ret
    have e1 := HV.out
    have := HS.out
    rw [List.take_of_length_le (by omega)] at this
    exact ⟨A2, c2, by show Ending.returned (.slice A2 (mb + q) c2) = _; rw [HE.out, List.length_append, ← HM.out, show (varsN n l).length = q from by omega], by rw [HE.out]; exact this.1, this.2, hbw⟩
 ·have HE : Hid (innerN k n s i l b = b) := Lib.hid (by simp [innerN, h2, h5, h4, h8'])
  have e2 : (k == 2) = false := by simpa using h2
  have e5 : (k == 5) = false := by simpa using h5
  have e4 : (k == 4) = false := by simpa using h4
  have e8 : (k == 8) = false := by simpa using h8'
  clear h8 hI hB hL hmb HM hm HW h2 h5 h4 h8'
  go_enter Tryz.func114, Tryz.ntmps114
  go_wp2_with fail
  go_ret
  rw [HE.out]
  exact HNO.out
end Lx
end Go.Proofs.YtiocmiikghcoaaaGreatDoor
