/-
  Texts that lie one behind the other: R7D RcB RcC.
-/
import Derived.Test.YtiocmiikghcoaaaGreatDoorC1
import Derived.Test.YtiocmiikghcoaaaGreatDoorC8
import Derived.Test.YtiocmiikghcoaaaGreatDoorC7
import Derived.Test.YtiocmiikghcoaaaGreatDoorC3
import Derived.Maps.AppendAt
import Derived.Deep.RegionHeld3
import Derived.Deep.DrawnRows
import Derived.Deep.QuietTactic
import Derived.BigQuiet
namespace Go.Proofs.YtiocmiikghcoaaaGreatDoor
open Go.RowKit
namespace Lx
set_option maxRecDepth 100000
set_option maxHeartbeats 8000000 in
theorem term7_k5 {d : Nat} (ih : Term7 d) (n a : Int) (s : ByteArray) (l : List Tr) (A : Option Addr) (m c : Nat) (b : List ByteArray) (Ab : Option Addr) (mb cb : Nat) (w : World) (hm : m = l.length) (hl : l.length = 2) (hd : depthL l ≤ d) (hok : okL l) (_hss : s.size ≤ 140737488351232) (hmb : mb = b.length) (hbl : mb + 9 * (d + 1) ≤ 70000) (hI : LIn w Any l A 0) (hB : SIn w Any b Ab) (hAb : Ab = none → cb = 0) :
  Calls Tryz.prog 52 #[.agg #[.int .i64 5, .string s, .int .i64 n, .int .i64 a, .slice A m c], .slice Ab mb cb] w (GivesE (termT b (.node 5 s n a l)) w) := by
 have HI := Lib.hid hI
 have HOK := Lib.hid hok
 have HB := Lib.hid hB
 have HAB := Lib.hid hAb
 have HMB := Lib.hid hmb
 have hbl' := hbl
 clear hI hok hB hAb hmb
 have hip : 0 < l.length := by omega
 obtain ⟨gp, op, Ap, cp, ⟨hAp, _⟩, dp0, dp1, dp2, dp3, dp4, hInp⟩ := LIn.at_ l HI.out (0) hip
 have hglp := cell_lt dp0
 have hdpp := depthL_mem l (l[0]'hip) (List.getElem_mem hip)
 have hokp := okL_mem l (l[0]'hip) (List.getElem_mem hip) HOK.out
 obtain ⟨Pp, hPp⟩ : ∃ t, t = l[0]'hip := ⟨_, rfl⟩
 rw [← hPp] at dp0 dp1 dp2 dp3 dp4 hInp hdpp hokp
 subst hAp
 have hiq : 1 < l.length := by omega
 obtain ⟨gq, oq, Aq, cq, ⟨hAq, _⟩, dq0, dq1, dq2, dq3, dq4, hInq⟩ := LIn.at_ l HI.out (1) hiq
 have hglq := cell_lt dq0
 have hdpq := depthL_mem l (l[1]'hiq) (List.getElem_mem hiq)
 have hokq := okL_mem l (l[1]'hiq) (List.getElem_mem hiq) HOK.out
 obtain ⟨Pq, hPq⟩ : ∃ t, t = l[1]'hiq := ⟨_, rfl⟩
 rw [← hPq] at dq0 dq1 dq2 dq3 dq4 hInq hdpq hokq
 cases hAq
 have hmA : 1 < m := by omega
 have hmB : 0 < m := by omega
 clear hm hl
 have hb0 : Below w.heap.size w ((w.alloc (.cells #[.int .i64 5, .string s, .int .i64 n, .int .i64 a, .slice (some ⟨gp, op, none⟩) m c] 49)).alloc (.cells #[.int .i64 0, .int .i64 0, .string ⟨#[]⟩, .slice none 0 0] 24)) := ((Below.refl _ w).alloc (Nat.le_refl _) _).alloc (by simp) _
 have hLt : Lies ((w.alloc (.cells #[.int .i64 5, .string s, .int .i64 n, .int .i64 a, .slice (some ⟨gp, op, none⟩) m c] 49)).alloc (.cells #[.int .i64 0, .int .i64 0, .string ⟨#[]⟩, .slice none 0 0] 24)) w.heap.size 49 #[.int .i64 5, .string s, .int .i64 n, .int .i64 a, .slice (some ⟨gp, op, none⟩) m c] := (Lies.new w _ _).old _
 have hLr : Lies ((w.alloc (.cells #[.int .i64 5, .string s, .int .i64 n, .int .i64 a, .slice (some ⟨gp, op, none⟩) m c] 49)).alloc (.cells #[.int .i64 0, .int .i64 0, .string ⟨#[]⟩, .slice none 0 0] 24)) (w.heap.size + 1) 24 #[.int .i64 0, .int .i64 0, .string ⟨#[]⟩, .slice none 0 0] := by simpa using Lies.new (w.alloc (.cells #[.int .i64 5, .string s, .int .i64 n, .int .i64 a, .slice (some ⟨gp, op, none⟩) m c] 49)) 24 #[.int .i64 0, .int .i64 0, .string ⟨#[]⟩, .slice none 0 0]
 have hBW : w.heap.size + 2 ≤ ((w.alloc (.cells #[.int .i64 5, .string s, .int .i64 n, .int .i64 a, .slice (some ⟨gp, op, none⟩) m c] 49)).alloc (.cells #[.int .i64 0, .int .i64 0, .string ⟨#[]⟩, .slice none 0 0] 24)).heap.size := by simp
 have hT2 : termT b (.node 5 s n a l) = two7 3 (lam7 (termT (b ++ [s]) Pq)) (two7 3 loop7 (lam7 (termT (b ++ [s]) Pp))) := by
  rw [termT, if_neg (by decide), if_neg (by decide), if_neg (by decide), if_neg (by decide), if_pos rfl, termL_at _ _ 0 hip, termL_at _ _ 1 hiq, hPp, hPq]
 clear hPp hPq
 go_enter Tryz.func52, Tryz.ntmps52
 go_upto_region 11 with fail
 generalize ((w.alloc (.cells #[.int .i64 5, .string s, .int .i64 n, .int .i64 a, .slice (some ⟨gp, op, none⟩) m c] 49)).alloc (.cells #[.int .i64 0, .int .i64 0, .string ⟨#[]⟩, .slice none 0 0] 24)) = W0 at *
 obtain ⟨LI, hLI⟩ : ∃ L, L = b ++ [s] := ⟨_, rfl⟩
 have hLIl : LI.length = mb + 1 := by rw [hLI, List.length_append, ← HMB.out]; rfl
 obtain ⟨mi, hmi⟩ : ∃ m, m = LI.length := ⟨_, rfl⟩
 have hmi1 : mi ≤ mb + 1 := by omega
 have HMI := Lib.hid hmi
 have HWI : Hid (∀ X, Below W0.heap.size W0 X → Calls Tryz.prog 82 #[.slice Ab mb cb, .string s] X fun e w' => ∃ A c, e = .returned (.slice A mi c) ∧ Hid (SIn w' Any LI A ∧ (A = none → c = 0)) ∧ Below X.heap.size X w') := Lib.hid fun X hX =>
  (with7_any b s Ab mb cb X HMB.out (by omega) (SIn.below HB.out (hb0.trans (hX.mono hb0.size)) (Nat.le_refl _)) HAB.out).mono fun e w' h => by
   obtain ⟨A, c, h1, h2, h3, h4⟩ := h
   exact ⟨A, c, by rw [h1, hmi, hLI], Lib.hid ⟨by rw [hLI]; exact h2, h3⟩, h4⟩
 have HLI := Lib.hid hLI
 clear hLI hLIl hmi
 rw [← HLI.out] at hT2
 have HTEp : Hid (∀ X, Below W0.heap.size W0 X → ∀ (Z : Nat → Prop) (hZ : ∀ g, X.heap.size ≤ g → Z g) (Ai : Option Addr) (ci : Nat) (hS : Hid (SIn X Any LI Ai ∧ (Ai = none → ci = 0))), Calls Tryz.prog 52 #[tv Pp Ap cp, .slice Ai mi ci] X fun e w' => ∃ A c, e = .returned (ev (termT LI Pp) A c) ∧ EIn w' Z (termT LI Pp) A ∧ Below X.heap.size X w') := Lib.hid fun X hX Z hZ Ai ci hS =>
  (ih Pp Ap cp LI Ai mi ci X (by omega) hokp HMI.out (by omega) (TIn.below _ hInp (hb0.trans (hX.mono hb0.size)) (Nat.le_refl _)) hS.out.1 hS.out.2).mono fun e w' ⟨A, c, h1, h2, h3⟩ => ⟨A, c, h1, EIn.wide _ h2 (fun g hg _ => hZ g hg), h3⟩
 obtain ⟨up, hup⟩ : ∃ t, t = termT LI Pp := ⟨_, rfl⟩
 rw [← hup] at HTEp
 replace hup := Lib.hid hup
 obtain ⟨upk, upn, ups, upl⟩ := up
 obtain ⟨pk, ps, pn, pa, pl⟩ := Pp
 simp only [ev, tv, Te.kind, Te.n, Te.name, Te.parts, Tr.kind, Tr.name, Tr.n, Tr.place, Tr.parts] at HTEp dp0 dp1 dp2 dp3 dp4
 have HTEq : Hid (∀ X, Below W0.heap.size W0 X → ∀ (Z : Nat → Prop) (hZ : ∀ g, X.heap.size ≤ g → Z g) (Ai : Option Addr) (ci : Nat) (hS : Hid (SIn X Any LI Ai ∧ (Ai = none → ci = 0))), Calls Tryz.prog 52 #[tv Pq Aq cq, .slice Ai mi ci] X fun e w' => ∃ A c, e = .returned (ev (termT LI Pq) A c) ∧ EIn w' Z (termT LI Pq) A ∧ Below X.heap.size X w') := Lib.hid fun X hX Z hZ Ai ci hS =>
  (ih Pq Aq cq LI Ai mi ci X (by omega) hokq HMI.out (by omega) (TIn.below _ hInq (hb0.trans (hX.mono hb0.size)) (Nat.le_refl _)) hS.out.1 hS.out.2).mono fun e w' ⟨A, c, h1, h2, h3⟩ => ⟨A, c, h1, EIn.wide _ h2 (fun g hg _ => hZ g hg), h3⟩
 obtain ⟨uq, huq⟩ : ∃ t, t = termT LI Pq := ⟨_, rfl⟩
 rw [← huq] at HTEq
 replace huq := Lib.hid huq
 obtain ⟨uqk, uqn, uqs, uql⟩ := uq
 obtain ⟨qk, qs, qn, qa, ql⟩ := Pq
 simp only [ev, tv, Te.kind, Te.n, Te.name, Te.parts, Tr.kind, Tr.name, Tr.n, Tr.place, Tr.parts] at HTEq dq0 dq1 dq2 dq3 dq4
 have HE : Hid (termT b (.node 5 s n a l) = (two7 3 (lam7 (.node uqk uqn uqs uql)) (two7 3 loop7 (lam7 (.node upk upn ups upl))))) := Lib.hid (by rw [hT2, ← hup.out, ← huq.out])
 have HSS : Hid (∀ V', Below W0.heap.size W0 V' → (fun V' : World => (V'.cell? ⟨w.heap.size, 0, none⟩ = some (.int .i64 5) ∧ V'.cell? ⟨w.heap.size, 1, none⟩ = some (.string s) ∧ V'.cell? ⟨w.heap.size, 2, none⟩ = some (.int .i64 n) ∧ V'.cell? ⟨w.heap.size, 3, none⟩ = some (.int .i64 a) ∧ V'.cell? ⟨w.heap.size, 4, none⟩ = some (.slice (some ⟨gp, op, none⟩) m c) ∧ V'.cell? ⟨gp, op, none⟩ = some (.int .i64 pk) ∧ V'.cell? ⟨gp, op + 1, none⟩ = some (.string ps) ∧ V'.cell? ⟨gp, op + 2, none⟩ = some (.int .i64 pn) ∧ V'.cell? ⟨gp, op + 3, none⟩ = some (.int .i64 pa) ∧ V'.cell? ⟨gp, op + 4, none⟩ = some (.slice Ap pl.length (capF pl.length cp)) ∧ V'.cell? ⟨gp, op + 5, none⟩ = some (.int .i64 qk) ∧ V'.cell? ⟨gp, op + 6, none⟩ = some (.string qs) ∧ V'.cell? ⟨gp, op + 7, none⟩ = some (.int .i64 qn) ∧ V'.cell? ⟨gp, op + 8, none⟩ = some (.int .i64 qa) ∧ V'.cell? ⟨gp, op + 9, none⟩ = some (.slice Aq ql.length (capF ql.length cq)))) V') := Lib.hid fun V' h =>
  ⟨(h.cell (p := ⟨w.heap.size, 0, none⟩) hLt.lt).trans (hLt.cell 0), (h.cell (p := ⟨w.heap.size, 1, none⟩) hLt.lt).trans (hLt.cell 1), (h.cell (p := ⟨w.heap.size, 2, none⟩) hLt.lt).trans (hLt.cell 2), (h.cell (p := ⟨w.heap.size, 3, none⟩) hLt.lt).trans (hLt.cell 3), (h.cell (p := ⟨w.heap.size, 4, none⟩) hLt.lt).trans (hLt.cell 4), (((hb0.trans (h.mono hb0.size)).cell (p := ⟨gp, _, none⟩) hglp)).trans dp0, (((hb0.trans (h.mono hb0.size)).cell (p := ⟨gp, _, none⟩) hglp)).trans dp1, (((hb0.trans (h.mono hb0.size)).cell (p := ⟨gp, _, none⟩) hglp)).trans dp2, (((hb0.trans (h.mono hb0.size)).cell (p := ⟨gp, _, none⟩) hglp)).trans dp3, (((hb0.trans (h.mono hb0.size)).cell (p := ⟨gp, _, none⟩) hglp)).trans dp4, (((hb0.trans (h.mono hb0.size)).cell (p := ⟨gp, _, none⟩) hglq)).trans dq0, (((hb0.trans (h.mono hb0.size)).cell (p := ⟨gp, _, none⟩) hglq)).trans dq1, (((hb0.trans (h.mono hb0.size)).cell (p := ⟨gp, _, none⟩) hglq)).trans dq2, (((hb0.trans (h.mono hb0.size)).cell (p := ⟨gp, _, none⟩) hglq)).trans dq3, (((hb0.trans (h.mono hb0.size)).cell (p := ⟨gp, _, none⟩) hglq)).trans dq4⟩
 have HLP : Hid (∀ X, Below W0.heap.size W0 X → ∀ (Z : Nat → Prop) (hZ : ∀ g, X.heap.size ≤ g → Z g), Calls Tryz.prog 84 #[] X fun e w' => ∃ A c, e = .returned (.agg #[.int .i64 2, .int .i64 0, .string (⟨#[]⟩ : ByteArray), .slice A 1 (capF 1 c)]) ∧ EIn w' Z loop7 A ∧ Below X.heap.size X w') := Lib.hid fun X _ Z hZ => loop7_any X Z hZ
 have HLM : Hid (∀ X, Below W0.heap.size W0 X → ∀ (Z : Nat → Prop) (hZ : ∀ g, X.heap.size ≤ g → Z g) (A : Option Addr) (c : Nat) (hA : EIn X Z (.node upk upn ups upl) A), Calls Tryz.prog 81 #[.agg #[.int .i64 upk, .int .i64 upn, .string ups, .slice A upl.length (capF upl.length c)]] X fun e w' => ∃ A c, e = .returned (.agg #[.int .i64 2, .int .i64 0, .string (⟨#[]⟩ : ByteArray), .slice A 1 (capF 1 c)]) ∧ EIn w' Z (lam7 (.node upk upn ups upl)) A ∧ Below X.heap.size X w') := Lib.hid fun X _ Z hZ A c hA => lam7_any (.node upk upn ups upl) A c X Z hA hZ
 have HTW : Hid (∀ X, Below W0.heap.size W0 X → ∀ (Z : Nat → Prop) (hZ : ∀ g, X.heap.size ≤ g → Z g) (A : Option Addr) (c : Nat) (hA : EIn X Z loop7 A) (B : Option Addr) (d : Nat) (hB : EIn X Z (lam7 (.node upk upn ups upl)) B), Calls Tryz.prog 83 #[.int .i64 3, .agg #[.int .i64 2, .int .i64 0, .string (⟨#[]⟩ : ByteArray), .slice A 1 (capF 1 c)], .agg #[.int .i64 2, .int .i64 0, .string (⟨#[]⟩ : ByteArray), .slice B 1 (capF 1 d)]] X fun e w' => ∃ A c, e = .returned (.agg #[.int .i64 3, .int .i64 0, .string (⟨#[]⟩ : ByteArray), .slice A 2 (capF 2 c)]) ∧ EIn w' Z (two7 3 loop7 (lam7 (.node upk upn ups upl))) A ∧ Below X.heap.size X w') := Lib.hid fun X _ Z hZ A c hA B d hB => two7_any 3 loop7 (lam7 (.node upk upn ups upl)) A B c d X Z (by decide) (by decide) hA hB hZ
 clear hT2 dp0 dp1 dp2 dp3 dp4 dq0 dq1 dq2 dq3 dq4 hLt hdpp hokp hInp hdpq hokq hInq
 go_cut [5] from 66 (fun v wx => ∃ (g : Nat) (A : Option Addr) (c : Nat), v = .pointer (some ⟨g, 0, none⟩) ∧ W0.heap.size ≤ g ∧ g < wx.heap.size ∧ Lies wx g 24 #[.int .i64 3, .int .i64 0, .string (⟨#[]⟩ : ByteArray), .slice A 2 (capF 2 c)] ∧ EIn wx (fun g => w.heap.size + 2 ≤ g) (two7 3 loop7 (lam7 (.node upk upn ups upl))) A ∧ Lies wx (w.heap.size + 1) 24 #[.int .i64 0, .int .i64 0, .string ⟨#[]⟩, .slice none 0 0] ∧ Below W0.heap.size W0 wx)
 case first =>
  have hb_1 : Below W0.heap.size W0 W0 := Below.refl _ _
  refine wp_region_K (S := (fun V' : World => (V'.cell? ⟨w.heap.size, 0, none⟩ = some (.int .i64 5) ∧ V'.cell? ⟨w.heap.size, 1, none⟩ = some (.string s) ∧ V'.cell? ⟨w.heap.size, 2, none⟩ = some (.int .i64 n) ∧ V'.cell? ⟨w.heap.size, 3, none⟩ = some (.int .i64 a) ∧ V'.cell? ⟨w.heap.size, 4, none⟩ = some (.slice (some ⟨gp, op, none⟩) m c) ∧ V'.cell? ⟨gp, op, none⟩ = some (.int .i64 pk) ∧ V'.cell? ⟨gp, op + 1, none⟩ = some (.string ps) ∧ V'.cell? ⟨gp, op + 2, none⟩ = some (.int .i64 pn) ∧ V'.cell? ⟨gp, op + 3, none⟩ = some (.int .i64 pa) ∧ V'.cell? ⟨gp, op + 4, none⟩ = some (.slice Ap pl.length (capF pl.length cp)) ∧ V'.cell? ⟨gp, op + 5, none⟩ = some (.int .i64 qk) ∧ V'.cell? ⟨gp, op + 6, none⟩ = some (.string qs) ∧ V'.cell? ⟨gp, op + 7, none⟩ = some (.int .i64 qn) ∧ V'.cell? ⟨gp, op + 8, none⟩ = some (.int .i64 qa) ∧ V'.cell? ⟨gp, op + 9, none⟩ = some (.slice Aq ql.length (capF ql.length cq))))) 13 rfl (HSS.out _ hb_1.drew) (fun hSs => ?_)
  change wpAnyK _ _ _ _ _ _ 14 (Array.replicate 14 false) _ _
  refine tkA (i := 1) (oi := ⟨some 67, _, _, _, _, _⟩) (v := .pointer (some ⟨w.heap.size, 4, none⟩)) hSs ?_
  try go_frame
  refine tkA (i := 2) (oi := ⟨some 68, _, _, _, _, _⟩) (v := .slice (some ⟨gp, op, none⟩) m c) hSs ?_
  try go_frame
  refine tkA (i := 3) (oi := ⟨some 69, _, _, _, _, _⟩) (v := .pointer (some ⟨gp, op, none⟩)) hSs ?_
  try go_frame
  refine tkA (i := 4) (oi := ⟨some 70, _, _, _, _, _⟩) (v := .agg #[.int .i64 pk, .string ps, .int .i64 pn, .int .i64 pa, .slice Ap pl.length (capF pl.length cp)]) hSs ?_
  try go_frame
  refine tkB (i := 5) (oi := ⟨some 71, _, _, _, _, _⟩) (v := .slice Ab mb cb) hSs ?_
  try go_frame
  refine tkA (i := 6) (oi := ⟨some 72, _, _, _, _, _⟩) (v := .pointer (some ⟨w.heap.size, 1, none⟩)) hSs ?_
  try go_frame
  refine tkA (i := 7) (oi := ⟨some 73, _, _, _, _, _⟩) (v := .string s) hSs ?_
  try go_frame
  refine wpAnyK_both  (i := 0) (j := 12) rfl rfl rfl rfl (by kernel_rfl) (fun K hK => ?_) (fun K hK => ?_)
  ·go_simp
   refine (HLP.out _ (hb_1.drew) (fun g => w.heap.size + 2 ≤ g) (fun g h => Nat.le_trans (Nat.le_trans hBW hb_1.size) h)).mono ?_
   rintro e u_2 ⟨A_2, c_2, rfl, hT_2, hq_2⟩
   have hb_2 := (hb_1.drew).trans (hq_2.mono (hb_1.drew).size)
   have hLr_2 := (hLr.drew).below hq_2 hLr.lt
   refine hK.out _ _ (fun _ => HSS.out _ hb_2) (fun hS9 => ?_)
   have hS_2 := hS9 (by decide)
   clear hK K hS9
   try go_frame
   refine wpAnyK_both  (i := 8) (j := 12) rfl rfl rfl rfl (by kernel_rfl) (fun K hK => ?_) (fun K hK => ?_)
   ·go_simp
    refine (HWI.out _ hb_2).mono ?_
    rintro e u_3 ⟨A_3, c_3, rfl, hS_3x, hq_3⟩
    have hb_3 := hb_2.trans (hq_3.mono hb_2.size)
    have hLr_2_3 := hLr_2.below hq_3 hLr_2.lt
    have hT_2_3 := EIn.below _ hT_2 hq_3 (Nat.le_refl _)
    refine hK.out _ _ (fun _ => HSS.out _ hb_3) (fun hS9 => ?_)
    have hS_3 := hS9 (by decide)
    clear hK K hS9
    try go_frame
    refine wpAnyK_both  (i := 9) (j := 12) rfl rfl rfl rfl (by kernel_rfl) (fun K hK => ?_) (fun K hK => ?_)
    ·go_simp
     refine (HTEp.out _ hb_3 (fun g => w.heap.size + 2 ≤ g) (fun g h => Nat.le_trans (Nat.le_trans hBW hb_3.size) h) A_3 c_3 hS_3x).mono ?_
     rintro e u_4 ⟨A_4, c_4, rfl, hT_4, hq_4⟩
     have hb_4 := hb_3.trans (hq_4.mono hb_3.size)
     have hLr_2_3_4 := hLr_2_3.below hq_4 hLr_2_3.lt
     have hT_2_3_4 := EIn.below _ hT_2_3 hq_4 (Nat.le_refl _)
     refine hK.out _ _ (fun _ => HSS.out _ hb_4) (fun hS9 => ?_)
     have hS_4 := hS9 (by decide)
     clear hK K hS9
     try go_frame
     refine wpAnyK_both  (i := 10) (j := 12) rfl rfl rfl rfl (by kernel_rfl) (fun K hK => ?_) (fun K hK => ?_)
     ·go_simp
      refine (HLM.out _ hb_4 (fun g => w.heap.size + 2 ≤ g) (fun g h => Nat.le_trans (Nat.le_trans hBW hb_4.size) h) A_4 c_4 hT_4).mono ?_
      rintro e u_5 ⟨A_5, c_5, rfl, hT_5, hq_5⟩
      have hb_5 := hb_4.trans (hq_5.mono hb_4.size)
      have hLr_2_3_4_5 := hLr_2_3_4.below hq_5 hLr_2_3_4.lt
      have hT_2_3_4_5 := EIn.below _ hT_2_3_4 hq_5 (Nat.le_refl _)
      have hT_4_5 := EIn.below _ hT_4 hq_5 (Nat.le_refl _)
      refine hK.out _ _ (fun _ => HSS.out _ hb_5) (fun hS9 => ?_)
      have hS_5 := hS9 (by decide)
      clear hK K hS9
      try go_frame
      refine wpAnyK_both  (i := 11) (j := 12) rfl rfl rfl rfl (by kernel_rfl) (fun K hK => ?_) (fun K hK => ?_)
      ·go_simp
       refine (HTW.out _ hb_5 (fun g => w.heap.size + 2 ≤ g) (fun g h => Nat.le_trans (Nat.le_trans hBW hb_5.size) h) A_2 c_2 hT_2_3_4_5 A_5 c_5 hT_5).mono ?_
       rintro e u_6 ⟨A_6, c_6, rfl, hT_6, hq_6⟩
       have hb_6 := hb_5.trans (hq_6.mono hb_5.size)
       have hLr_2_3_4_5_6 := hLr_2_3_4_5.below hq_6 hLr_2_3_4_5.lt
       have hT_2_3_4_5_6 := EIn.below _ hT_2_3_4_5 hq_6 (Nat.le_refl _)
       have hT_4_5_6 := EIn.below _ hT_4_5 hq_6 (Nat.le_refl _)
       have hT_5_6 := EIn.below _ hT_5 hq_6 (Nat.le_refl _)
       refine hK.out _ _ (fun _ => HSS.out _ hb_6) (fun hS9 => ?_)
       have hS_6 := hS9 (by decide)
       clear hK K hS9
       try go_frame
       refine wpAnyK_one  (i := 12) rfl rfl (by kernel_rfl) (fun K hK => ?_)
       go_simp
       have hb_7 := Below.alloc hb_6 hb_6.size (.cells #[.int .i64 0, .int .i64 0, .string (⟨#[]⟩ : ByteArray), .slice none 0 0] 24)
       have hl_7 : Lies (u_6.alloc (.cells #[.int .i64 0, .int .i64 0, .string (⟨#[]⟩ : ByteArray), .slice none 0 0] 24)) (u_6.heap.size) 24 #[.int .i64 0, .int .i64 0, .string (⟨#[]⟩ : ByteArray), .slice none 0 0] := Lies.new _ _ _
       have hLr_2_3_4_5_6_7 := hLr_2_3_4_5_6.old (.cells #[.int .i64 0, .int .i64 0, .string (⟨#[]⟩ : ByteArray), .slice none 0 0] 24)
       refine hK.out _ _ (fun _ => HSS.out _ hb_7) (fun hS9 => ?_)
       have hS_7 := hS9 (by decide)
       clear hK K hS9
       try go_frame
       have hT_2_3_4_5_6_7 : EIn (u_6.alloc (.cells #[.int .i64 0, .int .i64 0, .string (⟨#[]⟩ : ByteArray), .slice none 0 0] 24)) (fun g => w.heap.size + 2 ≤ g ∧ g ≠ u_6.heap.size) loop7 A_2 := EIn.keep _ hT_2_3_4_5_6 (fun g j hX hlt => ⟨World.cell?_alloc_lt _ _ _ hlt, hX, Nat.ne_of_lt hlt⟩)
       have hT_4_5_6_7 : EIn (u_6.alloc (.cells #[.int .i64 0, .int .i64 0, .string (⟨#[]⟩ : ByteArray), .slice none 0 0] 24)) (fun g => w.heap.size + 2 ≤ g ∧ g ≠ u_6.heap.size) (.node upk upn ups upl) A_4 := EIn.keep _ hT_4_5_6 (fun g j hX hlt => ⟨World.cell?_alloc_lt _ _ _ hlt, hX, Nat.ne_of_lt hlt⟩)
       have hT_5_6_7 : EIn (u_6.alloc (.cells #[.int .i64 0, .int .i64 0, .string (⟨#[]⟩ : ByteArray), .slice none 0 0] 24)) (fun g => w.heap.size + 2 ≤ g ∧ g ≠ u_6.heap.size) (lam7 (.node upk upn ups upl)) A_5 := EIn.keep _ hT_5_6 (fun g j hX hlt => ⟨World.cell?_alloc_lt _ _ _ hlt, hX, Nat.ne_of_lt hlt⟩)
       have hT_6_7 : EIn (u_6.alloc (.cells #[.int .i64 0, .int .i64 0, .string (⟨#[]⟩ : ByteArray), .slice none 0 0] 24)) (fun g => w.heap.size + 2 ≤ g ∧ g ≠ u_6.heap.size) (two7 3 loop7 (lam7 (.node upk upn ups upl))) A_6 := EIn.keep _ hT_6 (fun g j hX hlt => ⟨World.cell?_alloc_lt _ _ _ hlt, hX, Nat.ne_of_lt hlt⟩)
       refine wpAnyK_one  (i := 13) rfl rfl (by kernel_rfl) (fun K hK => ?_)
       refine wp_store_as (F := fun W9 => Below W0.heap.size W0 W9 ∧ Lies W9 (u_6.heap.size) 24 #[.int .i64 3, .int .i64 0, .string (⟨#[]⟩ : ByteArray), .slice A_6 2 (capF 2 c_6)] ∧ EIn W9 (fun g => w.heap.size + 2 ≤ g) (two7 3 loop7 (lam7 (.node upk upn ups upl))) A_6 ∧ Lies W9 (w.heap.size + 1) 24 #[.int .i64 0, .int .i64 0, .string (⟨#[]⟩ : ByteArray), .slice none 0 0]) _ _ _ rfl (u_6.heap.size) 0 #[.int .i64 3, .int .i64 0, .string (⟨#[]⟩ : ByteArray), .slice A_6 2 (capF 2 c_6)] rfl rfl (lies_is hl_7 rfl) (by kernel_rfl) (by simp [Value.oneCell']) ⟨below_cells hb_7 (hb_6.size) _ _, lies_set4 hl_7 _ _ _ _, EIn.wide _ (ein_offs _ hT_6_7 (fun h => h.2 rfl) _ _) (fun g h _ => h.1), lies_offs hLr_2_3_4_5_6_7 (Nat.ne_of_lt (Nat.lt_of_lt_of_le (Nat.lt_of_lt_of_le (Nat.lt_succ_self _) hBW) (hb_6.size))) _ _⟩ (fun W_8 hF_8 => ?_)
       refine hK.out _ _ (fun h => absurd rfl h) (fun _ => ?_)
       clear hK K
       try go_frame
       refine wpAnyK_done (by kernel_rfl) ?_ _
       obtain ⟨f1, f2, f3, f4⟩ := hF_8
       go_wp2_with fail
       go_meet
       exact ⟨_, A_6, c_6, rfl, hb_6.size, f2.lt, f2, f3, f4, f1⟩
      ·go_simp
       have hb_9 := Below.alloc hb_5 hb_5.size (.cells #[.int .i64 0, .int .i64 0, .string (⟨#[]⟩ : ByteArray), .slice none 0 0] 24)
       have hl_9 : Lies (u_5.alloc (.cells #[.int .i64 0, .int .i64 0, .string (⟨#[]⟩ : ByteArray), .slice none 0 0] 24)) (u_5.heap.size) 24 #[.int .i64 0, .int .i64 0, .string (⟨#[]⟩ : ByteArray), .slice none 0 0] := Lies.new _ _ _
       have hLr_2_3_4_5_9 := hLr_2_3_4_5.old (.cells #[.int .i64 0, .int .i64 0, .string (⟨#[]⟩ : ByteArray), .slice none 0 0] 24)
       refine hK.out _ _ (fun _ => HSS.out _ hb_9) (fun hS9 => ?_)
       have hS_9 := hS9 (by decide)
       clear hK K hS9
       try go_frame
       have hT_2_3_4_5_9 : EIn (u_5.alloc (.cells #[.int .i64 0, .int .i64 0, .string (⟨#[]⟩ : ByteArray), .slice none 0 0] 24)) (fun g => w.heap.size + 2 ≤ g ∧ g ≠ u_5.heap.size) loop7 A_2 := EIn.keep _ hT_2_3_4_5 (fun g j hX hlt => ⟨World.cell?_alloc_lt _ _ _ hlt, hX, Nat.ne_of_lt hlt⟩)
       have hT_4_5_9 : EIn (u_5.alloc (.cells #[.int .i64 0, .int .i64 0, .string (⟨#[]⟩ : ByteArray), .slice none 0 0] 24)) (fun g => w.heap.size + 2 ≤ g ∧ g ≠ u_5.heap.size) (.node upk upn ups upl) A_4 := EIn.keep _ hT_4_5 (fun g j hX hlt => ⟨World.cell?_alloc_lt _ _ _ hlt, hX, Nat.ne_of_lt hlt⟩)
       have hT_5_9 : EIn (u_5.alloc (.cells #[.int .i64 0, .int .i64 0, .string (⟨#[]⟩ : ByteArray), .slice none 0 0] 24)) (fun g => w.heap.size + 2 ≤ g ∧ g ≠ u_5.heap.size) (lam7 (.node upk upn ups upl)) A_5 := EIn.keep _ hT_5 (fun g j hX hlt => ⟨World.cell?_alloc_lt _ _ _ hlt, hX, Nat.ne_of_lt hlt⟩)
       refine wpAnyK_one  (i := 11) rfl rfl (by kernel_rfl) (fun K hK => ?_)
       go_simp
       refine (HTW.out _ hb_9 (fun g => w.heap.size + 2 ≤ g ∧ g ≠ u_5.heap.size) (fun g h => ⟨Nat.le_trans (Nat.le_trans hBW hb_9.size) h, Nat.ne_of_gt (Nat.lt_of_lt_of_le hl_9.lt h)⟩) A_2 c_2 hT_2_3_4_5_9 A_5 c_5 hT_5_9).mono ?_
       rintro e u_10 ⟨A_10, c_10, rfl, hT_10, hq_10⟩
       have hb_10 := hb_9.trans (hq_10.mono hb_9.size)
       have hLr_2_3_4_5_9_10 := hLr_2_3_4_5_9.below hq_10 hLr_2_3_4_5_9.lt
       have hl_9_10 := hl_9.below hq_10 hl_9.lt
       have hT_2_3_4_5_9_10 := EIn.below _ hT_2_3_4_5_9 hq_10 (Nat.le_refl _)
       have hT_4_5_9_10 := EIn.below _ hT_4_5_9 hq_10 (Nat.le_refl _)
       have hT_5_9_10 := EIn.below _ hT_5_9 hq_10 (Nat.le_refl _)
       refine hK.out _ _ (fun _ => HSS.out _ hb_10) (fun hS9 => ?_)
       have hS_10 := hS9 (by decide)
       clear hK K hS9
       try go_frame
       refine wpAnyK_one  (i := 13) rfl rfl (by kernel_rfl) (fun K hK => ?_)
       refine wp_store_as (F := fun W9 => Below W0.heap.size W0 W9 ∧ Lies W9 (u_5.heap.size) 24 #[.int .i64 3, .int .i64 0, .string (⟨#[]⟩ : ByteArray), .slice A_10 2 (capF 2 c_10)] ∧ EIn W9 (fun g => w.heap.size + 2 ≤ g) (two7 3 loop7 (lam7 (.node upk upn ups upl))) A_10 ∧ Lies W9 (w.heap.size + 1) 24 #[.int .i64 0, .int .i64 0, .string (⟨#[]⟩ : ByteArray), .slice none 0 0]) _ _ _ rfl (u_5.heap.size) 0 #[.int .i64 3, .int .i64 0, .string (⟨#[]⟩ : ByteArray), .slice A_10 2 (capF 2 c_10)] rfl rfl (lies_is hl_9_10 rfl) (by kernel_rfl) (by simp [Value.oneCell']) ⟨below_cells hb_10 (hb_5.size) _ _, lies_set4 hl_9_10 _ _ _ _, EIn.wide _ (ein_offs _ hT_10 (fun h => h.2 rfl) _ _) (fun g h _ => h.1), lies_offs hLr_2_3_4_5_9_10 (Nat.ne_of_lt (Nat.lt_of_lt_of_le (Nat.lt_of_lt_of_le (Nat.lt_succ_self _) hBW) (hb_5.size))) _ _⟩ (fun W_11 hF_11 => ?_)
       refine hK.out _ _ (fun h => absurd rfl h) (fun _ => ?_)
       clear hK K
       try go_frame
       refine wpAnyK_done (by kernel_rfl) ?_ _
       obtain ⟨f1, f2, f3, f4⟩ := hF_11
       go_wp2_with fail
       go_meet
       exact ⟨_, A_10, c_10, rfl, hb_5.size, f2.lt, f2, f3, f4, f1⟩
     ·go_simp
      have hb_12 := Below.alloc hb_4 hb_4.size (.cells #[.int .i64 0, .int .i64 0, .string (⟨#[]⟩ : ByteArray), .slice none 0 0] 24)
      have hl_12 : Lies (u_4.alloc (.cells #[.int .i64 0, .int .i64 0, .string (⟨#[]⟩ : ByteArray), .slice none 0 0] 24)) (u_4.heap.size) 24 #[.int .i64 0, .int .i64 0, .string (⟨#[]⟩ : ByteArray), .slice none 0 0] := Lies.new _ _ _
      have hLr_2_3_4_12 := hLr_2_3_4.old (.cells #[.int .i64 0, .int .i64 0, .string (⟨#[]⟩ : ByteArray), .slice none 0 0] 24)
      refine hK.out _ _ (fun _ => HSS.out _ hb_12) (fun hS9 => ?_)
      have hS_12 := hS9 (by decide)
      clear hK K hS9
      try go_frame
      have hT_2_3_4_12 : EIn (u_4.alloc (.cells #[.int .i64 0, .int .i64 0, .string (⟨#[]⟩ : ByteArray), .slice none 0 0] 24)) (fun g => w.heap.size + 2 ≤ g ∧ g ≠ u_4.heap.size) loop7 A_2 := EIn.keep _ hT_2_3_4 (fun g j hX hlt => ⟨World.cell?_alloc_lt _ _ _ hlt, hX, Nat.ne_of_lt hlt⟩)
      have hT_4_12 : EIn (u_4.alloc (.cells #[.int .i64 0, .int .i64 0, .string (⟨#[]⟩ : ByteArray), .slice none 0 0] 24)) (fun g => w.heap.size + 2 ≤ g ∧ g ≠ u_4.heap.size) (.node upk upn ups upl) A_4 := EIn.keep _ hT_4 (fun g j hX hlt => ⟨World.cell?_alloc_lt _ _ _ hlt, hX, Nat.ne_of_lt hlt⟩)
      refine wpAnyK_one  (i := 10) rfl rfl (by kernel_rfl) (fun K hK => ?_)
      go_simp
      refine (HLM.out _ hb_12 (fun g => w.heap.size + 2 ≤ g ∧ g ≠ u_4.heap.size) (fun g h => ⟨Nat.le_trans (Nat.le_trans hBW hb_12.size) h, Nat.ne_of_gt (Nat.lt_of_lt_of_le hl_12.lt h)⟩) A_4 c_4 hT_4_12).mono ?_
      rintro e u_13 ⟨A_13, c_13, rfl, hT_13, hq_13⟩
      have hb_13 := hb_12.trans (hq_13.mono hb_12.size)
      have hLr_2_3_4_12_13 := hLr_2_3_4_12.below hq_13 hLr_2_3_4_12.lt
      have hl_12_13 := hl_12.below hq_13 hl_12.lt
      have hT_2_3_4_12_13 := EIn.below _ hT_2_3_4_12 hq_13 (Nat.le_refl _)
      have hT_4_12_13 := EIn.below _ hT_4_12 hq_13 (Nat.le_refl _)
      refine hK.out _ _ (fun _ => HSS.out _ hb_13) (fun hS9 => ?_)
      have hS_13 := hS9 (by decide)
      clear hK K hS9
      try go_frame
      refine wpAnyK_one  (i := 11) rfl rfl (by kernel_rfl) (fun K hK => ?_)
      go_simp
      refine (HTW.out _ hb_13 (fun g => w.heap.size + 2 ≤ g ∧ g ≠ u_4.heap.size) (fun g h => ⟨Nat.le_trans (Nat.le_trans hBW hb_13.size) h, Nat.ne_of_gt (Nat.lt_of_lt_of_le hl_12_13.lt h)⟩) A_2 c_2 hT_2_3_4_12_13 A_13 c_13 hT_13).mono ?_
      rintro e u_14 ⟨A_14, c_14, rfl, hT_14, hq_14⟩
      have hb_14 := hb_13.trans (hq_14.mono hb_13.size)
      have hLr_2_3_4_12_13_14 := hLr_2_3_4_12_13.below hq_14 hLr_2_3_4_12_13.lt
      have hl_12_13_14 := hl_12_13.below hq_14 hl_12_13.lt
      have hT_2_3_4_12_13_14 := EIn.below _ hT_2_3_4_12_13 hq_14 (Nat.le_refl _)
      have hT_4_12_13_14 := EIn.below _ hT_4_12_13 hq_14 (Nat.le_refl _)
      have hT_13_14 := EIn.below _ hT_13 hq_14 (Nat.le_refl _)
      refine hK.out _ _ (fun _ => HSS.out _ hb_14) (fun hS9 => ?_)
      have hS_14 := hS9 (by decide)
      clear hK K hS9
      try go_frame
      refine wpAnyK_one  (i := 13) rfl rfl (by kernel_rfl) (fun K hK => ?_)
      refine wp_store_as (F := fun W9 => Below W0.heap.size W0 W9 ∧ Lies W9 (u_4.heap.size) 24 #[.int .i64 3, .int .i64 0, .string (⟨#[]⟩ : ByteArray), .slice A_14 2 (capF 2 c_14)] ∧ EIn W9 (fun g => w.heap.size + 2 ≤ g) (two7 3 loop7 (lam7 (.node upk upn ups upl))) A_14 ∧ Lies W9 (w.heap.size + 1) 24 #[.int .i64 0, .int .i64 0, .string (⟨#[]⟩ : ByteArray), .slice none 0 0]) _ _ _ rfl (u_4.heap.size) 0 #[.int .i64 3, .int .i64 0, .string (⟨#[]⟩ : ByteArray), .slice A_14 2 (capF 2 c_14)] rfl rfl (lies_is hl_12_13_14 rfl) (by kernel_rfl) (by simp [Value.oneCell']) ⟨below_cells hb_14 (hb_4.size) _ _, lies_set4 hl_12_13_14 _ _ _ _, EIn.wide _ (ein_offs _ hT_14 (fun h => h.2 rfl) _ _) (fun g h _ => h.1), lies_offs hLr_2_3_4_12_13_14 (Nat.ne_of_lt (Nat.lt_of_lt_of_le (Nat.lt_of_lt_of_le (Nat.lt_succ_self _) hBW) (hb_4.size))) _ _⟩ (fun W_15 hF_15 => ?_)
      refine hK.out _ _ (fun h => absurd rfl h) (fun _ => ?_)
      clear hK K
      try go_frame
      refine wpAnyK_done (by kernel_rfl) ?_ _
      obtain ⟨f1, f2, f3, f4⟩ := hF_15
      go_wp2_with fail
      go_meet
      exact ⟨_, A_14, c_14, rfl, hb_4.size, f2.lt, f2, f3, f4, f1⟩
    ·go_simp
     have hb_16 := Below.alloc hb_3 hb_3.size (.cells #[.int .i64 0, .int .i64 0, .string (⟨#[]⟩ : ByteArray), .slice none 0 0] 24)
     have hl_16 : Lies (u_3.alloc (.cells #[.int .i64 0, .int .i64 0, .string (⟨#[]⟩ : ByteArray), .slice none 0 0] 24)) (u_3.heap.size) 24 #[.int .i64 0, .int .i64 0, .string (⟨#[]⟩ : ByteArray), .slice none 0 0] := Lies.new _ _ _
     have hLr_2_3_16 := hLr_2_3.old (.cells #[.int .i64 0, .int .i64 0, .string (⟨#[]⟩ : ByteArray), .slice none 0 0] 24)
     refine hK.out _ _ (fun _ => HSS.out _ hb_16) (fun hS9 => ?_)
     have hS_16 := hS9 (by decide)
     clear hK K hS9
     try go_frame
     have hT_2_3_16 : EIn (u_3.alloc (.cells #[.int .i64 0, .int .i64 0, .string (⟨#[]⟩ : ByteArray), .slice none 0 0] 24)) (fun g => w.heap.size + 2 ≤ g ∧ g ≠ u_3.heap.size) loop7 A_2 := EIn.keep _ hT_2_3 (fun g j hX hlt => ⟨World.cell?_alloc_lt _ _ _ hlt, hX, Nat.ne_of_lt hlt⟩)
     have hS_3x_16 := Lib.hid (And.intro (SIn.below (w' := (u_3.alloc (.cells #[.int .i64 0, .int .i64 0, .string (⟨#[]⟩ : ByteArray), .slice none 0 0] 24))) hS_3x.out.1 ((Below.refl _ _).alloc (Nat.le_refl _) _) (Nat.le_refl _)) hS_3x.out.2)
     refine wpAnyK_one  (i := 9) rfl rfl (by kernel_rfl) (fun K hK => ?_)
     go_simp
     refine (HTEp.out _ hb_16 (fun g => w.heap.size + 2 ≤ g ∧ g ≠ u_3.heap.size) (fun g h => ⟨Nat.le_trans (Nat.le_trans hBW hb_16.size) h, Nat.ne_of_gt (Nat.lt_of_lt_of_le hl_16.lt h)⟩) A_3 c_3 hS_3x_16).mono ?_
     rintro e u_17 ⟨A_17, c_17, rfl, hT_17, hq_17⟩
     have hb_17 := hb_16.trans (hq_17.mono hb_16.size)
     have hLr_2_3_16_17 := hLr_2_3_16.below hq_17 hLr_2_3_16.lt
     have hl_16_17 := hl_16.below hq_17 hl_16.lt
     have hT_2_3_16_17 := EIn.below _ hT_2_3_16 hq_17 (Nat.le_refl _)
     refine hK.out _ _ (fun _ => HSS.out _ hb_17) (fun hS9 => ?_)
     have hS_17 := hS9 (by decide)
     clear hK K hS9
     try go_frame
     refine wpAnyK_one  (i := 10) rfl rfl (by kernel_rfl) (fun K hK => ?_)
     go_simp
     refine (HLM.out _ hb_17 (fun g => w.heap.size + 2 ≤ g ∧ g ≠ u_3.heap.size) (fun g h => ⟨Nat.le_trans (Nat.le_trans hBW hb_17.size) h, Nat.ne_of_gt (Nat.lt_of_lt_of_le hl_16_17.lt h)⟩) A_17 c_17 hT_17).mono ?_
     rintro e u_18 ⟨A_18, c_18, rfl, hT_18, hq_18⟩
     have hb_18 := hb_17.trans (hq_18.mono hb_17.size)
     have hLr_2_3_16_17_18 := hLr_2_3_16_17.below hq_18 hLr_2_3_16_17.lt
     have hl_16_17_18 := hl_16_17.below hq_18 hl_16_17.lt
     have hT_2_3_16_17_18 := EIn.below _ hT_2_3_16_17 hq_18 (Nat.le_refl _)
     have hT_17_18 := EIn.below _ hT_17 hq_18 (Nat.le_refl _)
     refine hK.out _ _ (fun _ => HSS.out _ hb_18) (fun hS9 => ?_)
     have hS_18 := hS9 (by decide)
     clear hK K hS9
     try go_frame
     refine wpAnyK_one  (i := 11) rfl rfl (by kernel_rfl) (fun K hK => ?_)
     go_simp
     refine (HTW.out _ hb_18 (fun g => w.heap.size + 2 ≤ g ∧ g ≠ u_3.heap.size) (fun g h => ⟨Nat.le_trans (Nat.le_trans hBW hb_18.size) h, Nat.ne_of_gt (Nat.lt_of_lt_of_le hl_16_17_18.lt h)⟩) A_2 c_2 hT_2_3_16_17_18 A_18 c_18 hT_18).mono ?_
     rintro e u_19 ⟨A_19, c_19, rfl, hT_19, hq_19⟩
     have hb_19 := hb_18.trans (hq_19.mono hb_18.size)
     have hLr_2_3_16_17_18_19 := hLr_2_3_16_17_18.below hq_19 hLr_2_3_16_17_18.lt
     have hl_16_17_18_19 := hl_16_17_18.below hq_19 hl_16_17_18.lt
     have hT_2_3_16_17_18_19 := EIn.below _ hT_2_3_16_17_18 hq_19 (Nat.le_refl _)
     have hT_17_18_19 := EIn.below _ hT_17_18 hq_19 (Nat.le_refl _)
     have hT_18_19 := EIn.below _ hT_18 hq_19 (Nat.le_refl _)
     refine hK.out _ _ (fun _ => HSS.out _ hb_19) (fun hS9 => ?_)
     have hS_19 := hS9 (by decide)
     clear hK K hS9
     try go_frame
     refine wpAnyK_one  (i := 13) rfl rfl (by kernel_rfl) (fun K hK => ?_)
     refine wp_store_as (F := fun W9 => Below W0.heap.size W0 W9 ∧ Lies W9 (u_3.heap.size) 24 #[.int .i64 3, .int .i64 0, .string (⟨#[]⟩ : ByteArray), .slice A_19 2 (capF 2 c_19)] ∧ EIn W9 (fun g => w.heap.size + 2 ≤ g) (two7 3 loop7 (lam7 (.node upk upn ups upl))) A_19 ∧ Lies W9 (w.heap.size + 1) 24 #[.int .i64 0, .int .i64 0, .string (⟨#[]⟩ : ByteArray), .slice none 0 0]) _ _ _ rfl (u_3.heap.size) 0 #[.int .i64 3, .int .i64 0, .string (⟨#[]⟩ : ByteArray), .slice A_19 2 (capF 2 c_19)] rfl rfl (lies_is hl_16_17_18_19 rfl) (by kernel_rfl) (by simp [Value.oneCell']) ⟨below_cells hb_19 (hb_3.size) _ _, lies_set4 hl_16_17_18_19 _ _ _ _, EIn.wide _ (ein_offs _ hT_19 (fun h => h.2 rfl) _ _) (fun g h _ => h.1), lies_offs hLr_2_3_16_17_18_19 (Nat.ne_of_lt (Nat.lt_of_lt_of_le (Nat.lt_of_lt_of_le (Nat.lt_succ_self _) hBW) (hb_3.size))) _ _⟩ (fun W_20 hF_20 => ?_)
     refine hK.out _ _ (fun h => absurd rfl h) (fun _ => ?_)
     clear hK K
     try go_frame
     refine wpAnyK_done (by kernel_rfl) ?_ _
     obtain ⟨f1, f2, f3, f4⟩ := hF_20
     go_wp2_with fail
     go_meet
     exact ⟨_, A_19, c_19, rfl, hb_3.size, f2.lt, f2, f3, f4, f1⟩
   ·go_simp
    have hb_21 := Below.alloc hb_2 hb_2.size (.cells #[.int .i64 0, .int .i64 0, .string (⟨#[]⟩ : ByteArray), .slice none 0 0] 24)
    have hl_21 : Lies (u_2.alloc (.cells #[.int .i64 0, .int .i64 0, .string (⟨#[]⟩ : ByteArray), .slice none 0 0] 24)) (u_2.heap.size) 24 #[.int .i64 0, .int .i64 0, .string (⟨#[]⟩ : ByteArray), .slice none 0 0] := Lies.new _ _ _
    have hLr_2_21 := hLr_2.old (.cells #[.int .i64 0, .int .i64 0, .string (⟨#[]⟩ : ByteArray), .slice none 0 0] 24)
    refine hK.out _ _ (fun _ => HSS.out _ hb_21) (fun hS9 => ?_)
    have hS_21 := hS9 (by decide)
    clear hK K hS9
    try go_frame
    have hT_2_21 : EIn (u_2.alloc (.cells #[.int .i64 0, .int .i64 0, .string (⟨#[]⟩ : ByteArray), .slice none 0 0] 24)) (fun g => w.heap.size + 2 ≤ g ∧ g ≠ u_2.heap.size) loop7 A_2 := EIn.keep _ hT_2 (fun g j hX hlt => ⟨World.cell?_alloc_lt _ _ _ hlt, hX, Nat.ne_of_lt hlt⟩)
    refine wpAnyK_one  (i := 8) rfl rfl (by kernel_rfl) (fun K hK => ?_)
    go_simp
    refine (HWI.out _ hb_21).mono ?_
    rintro e u_22 ⟨A_22, c_22, rfl, hS_22x, hq_22⟩
    have hb_22 := hb_21.trans (hq_22.mono hb_21.size)
    have hLr_2_21_22 := hLr_2_21.below hq_22 hLr_2_21.lt
    have hl_21_22 := hl_21.below hq_22 hl_21.lt
    have hT_2_21_22 := EIn.below _ hT_2_21 hq_22 (Nat.le_refl _)
    refine hK.out _ _ (fun _ => HSS.out _ hb_22) (fun hS9 => ?_)
    have hS_22 := hS9 (by decide)
    clear hK K hS9
    try go_frame
    refine wpAnyK_one  (i := 9) rfl rfl (by kernel_rfl) (fun K hK => ?_)
    go_simp
    refine (HTEp.out _ hb_22 (fun g => w.heap.size + 2 ≤ g ∧ g ≠ u_2.heap.size) (fun g h => ⟨Nat.le_trans (Nat.le_trans hBW hb_22.size) h, Nat.ne_of_gt (Nat.lt_of_lt_of_le hl_21_22.lt h)⟩) A_22 c_22 hS_22x).mono ?_
    rintro e u_23 ⟨A_23, c_23, rfl, hT_23, hq_23⟩
    have hb_23 := hb_22.trans (hq_23.mono hb_22.size)
    have hLr_2_21_22_23 := hLr_2_21_22.below hq_23 hLr_2_21_22.lt
    have hl_21_22_23 := hl_21_22.below hq_23 hl_21_22.lt
    have hT_2_21_22_23 := EIn.below _ hT_2_21_22 hq_23 (Nat.le_refl _)
    refine hK.out _ _ (fun _ => HSS.out _ hb_23) (fun hS9 => ?_)
    have hS_23 := hS9 (by decide)
    clear hK K hS9
    try go_frame
    refine wpAnyK_one  (i := 10) rfl rfl (by kernel_rfl) (fun K hK => ?_)
    go_simp
    refine (HLM.out _ hb_23 (fun g => w.heap.size + 2 ≤ g ∧ g ≠ u_2.heap.size) (fun g h => ⟨Nat.le_trans (Nat.le_trans hBW hb_23.size) h, Nat.ne_of_gt (Nat.lt_of_lt_of_le hl_21_22_23.lt h)⟩) A_23 c_23 hT_23).mono ?_
    rintro e u_24 ⟨A_24, c_24, rfl, hT_24, hq_24⟩
    have hb_24 := hb_23.trans (hq_24.mono hb_23.size)
    have hLr_2_21_22_23_24 := hLr_2_21_22_23.below hq_24 hLr_2_21_22_23.lt
    have hl_21_22_23_24 := hl_21_22_23.below hq_24 hl_21_22_23.lt
    have hT_2_21_22_23_24 := EIn.below _ hT_2_21_22_23 hq_24 (Nat.le_refl _)
    have hT_23_24 := EIn.below _ hT_23 hq_24 (Nat.le_refl _)
    refine hK.out _ _ (fun _ => HSS.out _ hb_24) (fun hS9 => ?_)
    have hS_24 := hS9 (by decide)
    clear hK K hS9
    try go_frame
    refine wpAnyK_one  (i := 11) rfl rfl (by kernel_rfl) (fun K hK => ?_)
    go_simp
    refine (HTW.out _ hb_24 (fun g => w.heap.size + 2 ≤ g ∧ g ≠ u_2.heap.size) (fun g h => ⟨Nat.le_trans (Nat.le_trans hBW hb_24.size) h, Nat.ne_of_gt (Nat.lt_of_lt_of_le hl_21_22_23_24.lt h)⟩) A_2 c_2 hT_2_21_22_23_24 A_24 c_24 hT_24).mono ?_
    rintro e u_25 ⟨A_25, c_25, rfl, hT_25, hq_25⟩
    have hb_25 := hb_24.trans (hq_25.mono hb_24.size)
    have hLr_2_21_22_23_24_25 := hLr_2_21_22_23_24.below hq_25 hLr_2_21_22_23_24.lt
    have hl_21_22_23_24_25 := hl_21_22_23_24.below hq_25 hl_21_22_23_24.lt
    have hT_2_21_22_23_24_25 := EIn.below _ hT_2_21_22_23_24 hq_25 (Nat.le_refl _)
    have hT_23_24_25 := EIn.below _ hT_23_24 hq_25 (Nat.le_refl _)
    have hT_24_25 := EIn.below _ hT_24 hq_25 (Nat.le_refl _)
    refine hK.out _ _ (fun _ => HSS.out _ hb_25) (fun hS9 => ?_)
    have hS_25 := hS9 (by decide)
    clear hK K hS9
    try go_frame
    refine wpAnyK_one  (i := 13) rfl rfl (by kernel_rfl) (fun K hK => ?_)
    refine wp_store_as (F := fun W9 => Below W0.heap.size W0 W9 ∧ Lies W9 (u_2.heap.size) 24 #[.int .i64 3, .int .i64 0, .string (⟨#[]⟩ : ByteArray), .slice A_25 2 (capF 2 c_25)] ∧ EIn W9 (fun g => w.heap.size + 2 ≤ g) (two7 3 loop7 (lam7 (.node upk upn ups upl))) A_25 ∧ Lies W9 (w.heap.size + 1) 24 #[.int .i64 0, .int .i64 0, .string (⟨#[]⟩ : ByteArray), .slice none 0 0]) _ _ _ rfl (u_2.heap.size) 0 #[.int .i64 3, .int .i64 0, .string (⟨#[]⟩ : ByteArray), .slice A_25 2 (capF 2 c_25)] rfl rfl (lies_is hl_21_22_23_24_25 rfl) (by kernel_rfl) (by simp [Value.oneCell']) ⟨below_cells hb_25 (hb_2.size) _ _, lies_set4 hl_21_22_23_24_25 _ _ _ _, EIn.wide _ (ein_offs _ hT_25 (fun h => h.2 rfl) _ _) (fun g h _ => h.1), lies_offs hLr_2_21_22_23_24_25 (Nat.ne_of_lt (Nat.lt_of_lt_of_le (Nat.lt_of_lt_of_le (Nat.lt_succ_self _) hBW) (hb_2.size))) _ _⟩ (fun W_26 hF_26 => ?_)
    refine hK.out _ _ (fun h => absurd rfl h) (fun _ => ?_)
    clear hK K
    try go_frame
    refine wpAnyK_done (by kernel_rfl) ?_ _
    obtain ⟨f1, f2, f3, f4⟩ := hF_26
    go_wp2_with fail
    go_meet
    exact ⟨_, A_25, c_25, rfl, hb_2.size, f2.lt, f2, f3, f4, f1⟩
  ·go_simp
   have hb_27 := Below.alloc hb_1 hb_1.size (.cells #[.int .i64 0, .int .i64 0, .string (⟨#[]⟩ : ByteArray), .slice none 0 0] 24)
   have hl_27 : Lies (W0.alloc (.cells #[.int .i64 0, .int .i64 0, .string (⟨#[]⟩ : ByteArray), .slice none 0 0] 24)) (W0.heap.size) 24 #[.int .i64 0, .int .i64 0, .string (⟨#[]⟩ : ByteArray), .slice none 0 0] := Lies.new _ _ _
   have hLr_27 := hLr.old (.cells #[.int .i64 0, .int .i64 0, .string (⟨#[]⟩ : ByteArray), .slice none 0 0] 24)
   refine hK.out _ _ (fun _ => HSS.out _ (hb_27.drew)) (fun hS9 => ?_)
   have hS_27 := hS9 (by decide)
   clear hK K hS9
   try go_frame
   refine wpAnyK_one  (i := 0) rfl rfl (by kernel_rfl) (fun K hK => ?_)
   go_simp
   refine (HLP.out _ (hb_27.drew) (fun g => w.heap.size + 2 ≤ g ∧ g ≠ W0.heap.size) (fun g h => ⟨Nat.le_trans (Nat.le_trans hBW hb_27.size) h, Nat.ne_of_gt (Nat.lt_of_lt_of_le hl_27.lt h)⟩)).mono ?_
   rintro e u_28 ⟨A_28, c_28, rfl, hT_28, hq_28⟩
   have hb_28 := (hb_27.drew).trans (hq_28.mono (hb_27.drew).size)
   have hLr_27_28 := (hLr_27.drew).below hq_28 hLr_27.lt
   have hl_27_28 := (hl_27.drew).below hq_28 hl_27.lt
   refine hK.out _ _ (fun _ => HSS.out _ hb_28) (fun hS9 => ?_)
   have hS_28 := hS9 (by decide)
   clear hK K hS9
   try go_frame
   refine wpAnyK_one  (i := 8) rfl rfl (by kernel_rfl) (fun K hK => ?_)
   go_simp
   refine (HWI.out _ hb_28).mono ?_
   rintro e u_29 ⟨A_29, c_29, rfl, hS_29x, hq_29⟩
   have hb_29 := hb_28.trans (hq_29.mono hb_28.size)
   have hLr_27_28_29 := hLr_27_28.below hq_29 hLr_27_28.lt
   have hl_27_28_29 := hl_27_28.below hq_29 hl_27_28.lt
   have hT_28_29 := EIn.below _ hT_28 hq_29 (Nat.le_refl _)
   refine hK.out _ _ (fun _ => HSS.out _ hb_29) (fun hS9 => ?_)
   have hS_29 := hS9 (by decide)
   clear hK K hS9
   try go_frame
   refine wpAnyK_one  (i := 9) rfl rfl (by kernel_rfl) (fun K hK => ?_)
   go_simp
   refine (HTEp.out _ hb_29 (fun g => w.heap.size + 2 ≤ g ∧ g ≠ W0.heap.size) (fun g h => ⟨Nat.le_trans (Nat.le_trans hBW hb_29.size) h, Nat.ne_of_gt (Nat.lt_of_lt_of_le hl_27_28_29.lt h)⟩) A_29 c_29 hS_29x).mono ?_
   rintro e u_30 ⟨A_30, c_30, rfl, hT_30, hq_30⟩
   have hb_30 := hb_29.trans (hq_30.mono hb_29.size)
   have hLr_27_28_29_30 := hLr_27_28_29.below hq_30 hLr_27_28_29.lt
   have hl_27_28_29_30 := hl_27_28_29.below hq_30 hl_27_28_29.lt
   have hT_28_29_30 := EIn.below _ hT_28_29 hq_30 (Nat.le_refl _)
   refine hK.out _ _ (fun _ => HSS.out _ hb_30) (fun hS9 => ?_)
   have hS_30 := hS9 (by decide)
   clear hK K hS9
   try go_frame
   refine wpAnyK_one  (i := 10) rfl rfl (by kernel_rfl) (fun K hK => ?_)
   go_simp
   refine (HLM.out _ hb_30 (fun g => w.heap.size + 2 ≤ g ∧ g ≠ W0.heap.size) (fun g h => ⟨Nat.le_trans (Nat.le_trans hBW hb_30.size) h, Nat.ne_of_gt (Nat.lt_of_lt_of_le hl_27_28_29_30.lt h)⟩) A_30 c_30 hT_30).mono ?_
   rintro e u_31 ⟨A_31, c_31, rfl, hT_31, hq_31⟩
   have hb_31 := hb_30.trans (hq_31.mono hb_30.size)
   have hLr_27_28_29_30_31 := hLr_27_28_29_30.below hq_31 hLr_27_28_29_30.lt
   have hl_27_28_29_30_31 := hl_27_28_29_30.below hq_31 hl_27_28_29_30.lt
   have hT_28_29_30_31 := EIn.below _ hT_28_29_30 hq_31 (Nat.le_refl _)
   have hT_30_31 := EIn.below _ hT_30 hq_31 (Nat.le_refl _)
   refine hK.out _ _ (fun _ => HSS.out _ hb_31) (fun hS9 => ?_)
   have hS_31 := hS9 (by decide)
   clear hK K hS9
   try go_frame
   refine wpAnyK_one  (i := 11) rfl rfl (by kernel_rfl) (fun K hK => ?_)
   go_simp
   refine (HTW.out _ hb_31 (fun g => w.heap.size + 2 ≤ g ∧ g ≠ W0.heap.size) (fun g h => ⟨Nat.le_trans (Nat.le_trans hBW hb_31.size) h, Nat.ne_of_gt (Nat.lt_of_lt_of_le hl_27_28_29_30_31.lt h)⟩) A_28 c_28 hT_28_29_30_31 A_31 c_31 hT_31).mono ?_
   rintro e u_32 ⟨A_32, c_32, rfl, hT_32, hq_32⟩
   have hb_32 := hb_31.trans (hq_32.mono hb_31.size)
   have hLr_27_28_29_30_31_32 := hLr_27_28_29_30_31.below hq_32 hLr_27_28_29_30_31.lt
   have hl_27_28_29_30_31_32 := hl_27_28_29_30_31.below hq_32 hl_27_28_29_30_31.lt
   have hT_28_29_30_31_32 := EIn.below _ hT_28_29_30_31 hq_32 (Nat.le_refl _)
   have hT_30_31_32 := EIn.below _ hT_30_31 hq_32 (Nat.le_refl _)
   have hT_31_32 := EIn.below _ hT_31 hq_32 (Nat.le_refl _)
   refine hK.out _ _ (fun _ => HSS.out _ hb_32) (fun hS9 => ?_)
   have hS_32 := hS9 (by decide)
   clear hK K hS9
   try go_frame
   refine wpAnyK_one  (i := 13) rfl rfl (by kernel_rfl) (fun K hK => ?_)
   refine wp_store_as (F := fun W9 => Below W0.heap.size W0 W9 ∧ Lies W9 (W0.heap.size) 24 #[.int .i64 3, .int .i64 0, .string (⟨#[]⟩ : ByteArray), .slice A_32 2 (capF 2 c_32)] ∧ EIn W9 (fun g => w.heap.size + 2 ≤ g) (two7 3 loop7 (lam7 (.node upk upn ups upl))) A_32 ∧ Lies W9 (w.heap.size + 1) 24 #[.int .i64 0, .int .i64 0, .string (⟨#[]⟩ : ByteArray), .slice none 0 0]) _ _ _ rfl (W0.heap.size) 0 #[.int .i64 3, .int .i64 0, .string (⟨#[]⟩ : ByteArray), .slice A_32 2 (capF 2 c_32)] rfl rfl (lies_is hl_27_28_29_30_31_32 rfl) (by kernel_rfl) (by simp [Value.oneCell']) ⟨below_cells hb_32 (Nat.le_refl _) _ _, lies_set4 hl_27_28_29_30_31_32 _ _ _ _, EIn.wide _ (ein_offs _ hT_32 (fun h => h.2 rfl) _ _) (fun g h _ => h.1), lies_offs hLr_27_28_29_30_31_32 (Nat.ne_of_lt (Nat.lt_of_lt_of_le (Nat.lt_of_lt_of_le (Nat.lt_succ_self _) hBW) (Nat.le_refl _))) _ _⟩ (fun W_33 hF_33 => ?_)
   refine hK.out _ _ (fun h => absurd rfl h) (fun _ => ?_)
   clear hK K
   try go_frame
   refine wpAnyK_done (by kernel_rfl) ?_ _
   obtain ⟨f1, f2, f3, f4⟩ := hF_33
   go_wp2_with fail
   go_meet
   exact ⟨_, A_32, c_32, rfl, Nat.le_refl _, f2.lt, f2, f3, f4, f1⟩
 case rest =>
  obtain ⟨gf, Af, cf, rfl, hg0, hgl, hLf, hEf, hLr', hbx⟩ := hcut
  have hBc : w.heap.size + 2 ≤ wc.heap.size := Nat.le_trans hBW hbx.size
  have hc := Lib.hid (fun V' (h : Below wc.heap.size wc V') => HSS.out V' (hbx.trans (h.mono hbx.size)))
  have HSS2 : Hid (∀ V', Below wc.heap.size wc V' → (fun V' : World => (V'.cell? ⟨w.heap.size, 0, none⟩ = some (.int .i64 5) ∧ V'.cell? ⟨w.heap.size, 1, none⟩ = some (.string s) ∧ V'.cell? ⟨w.heap.size, 2, none⟩ = some (.int .i64 n) ∧ V'.cell? ⟨w.heap.size, 3, none⟩ = some (.int .i64 a) ∧ V'.cell? ⟨w.heap.size, 4, none⟩ = some (.slice (some ⟨gp, op, none⟩) m c) ∧ V'.cell? ⟨gp, op, none⟩ = some (.int .i64 pk) ∧ V'.cell? ⟨gp, op + 1, none⟩ = some (.string ps) ∧ V'.cell? ⟨gp, op + 2, none⟩ = some (.int .i64 pn) ∧ V'.cell? ⟨gp, op + 3, none⟩ = some (.int .i64 pa) ∧ V'.cell? ⟨gp, op + 4, none⟩ = some (.slice Ap pl.length (capF pl.length cp)) ∧ V'.cell? ⟨gp, op + 5, none⟩ = some (.int .i64 qk) ∧ V'.cell? ⟨gp, op + 6, none⟩ = some (.string qs) ∧ V'.cell? ⟨gp, op + 7, none⟩ = some (.int .i64 qn) ∧ V'.cell? ⟨gp, op + 8, none⟩ = some (.int .i64 qa) ∧ V'.cell? ⟨gp, op + 9, none⟩ = some (.slice Aq ql.length (capF ql.length cq)) ∧ V'.cell? ⟨gf, 0, none⟩ = some (.int .i64 3) ∧ V'.cell? ⟨gf, 1, none⟩ = some (.int .i64 0) ∧ V'.cell? ⟨gf, 2, none⟩ = some (.string (⟨#[]⟩ : ByteArray)) ∧ V'.cell? ⟨gf, 3, none⟩ = some (.slice Af 2 (capF 2 cf)))) V') := Lib.hid fun V' h =>
   ⟨(hc.out _ h).1, (hc.out _ h).2.1, (hc.out _ h).2.2.1, (hc.out _ h).2.2.2.1, (hc.out _ h).2.2.2.2.1, (hc.out _ h).2.2.2.2.2.1, (hc.out _ h).2.2.2.2.2.2.1, (hc.out _ h).2.2.2.2.2.2.2.1, (hc.out _ h).2.2.2.2.2.2.2.2.1, (hc.out _ h).2.2.2.2.2.2.2.2.2.1, (hc.out _ h).2.2.2.2.2.2.2.2.2.2.1, (hc.out _ h).2.2.2.2.2.2.2.2.2.2.2.1, (hc.out _ h).2.2.2.2.2.2.2.2.2.2.2.2.1, (hc.out _ h).2.2.2.2.2.2.2.2.2.2.2.2.2.1, (hc.out _ h).2.2.2.2.2.2.2.2.2.2.2.2.2.2, (h.cell (p := ⟨gf, 0, none⟩) hLf.lt).trans (hLf.cell 0), (h.cell (p := ⟨gf, 1, none⟩) hLf.lt).trans (hLf.cell 1), (h.cell (p := ⟨gf, 2, none⟩) hLf.lt).trans (hLf.cell 2), (h.cell (p := ⟨gf, 3, none⟩) hLf.lt).trans (hLf.cell 3)⟩
  replace HWI := Lib.hid (fun X (hX : Below wc.heap.size wc X) => HWI.out X (hbx.trans (hX.mono hbx.size)))
  replace HTEq := Lib.hid (fun X (hX : Below wc.heap.size wc X) => HTEq.out X (hbx.trans (hX.mono hbx.size)))
  have HLM2 : Hid (∀ X, Below wc.heap.size wc X → ∀ (Z : Nat → Prop) (hZ : ∀ g, X.heap.size ≤ g → Z g) (A : Option Addr) (c : Nat) (hA : EIn X Z (.node uqk uqn uqs uql) A), Calls Tryz.prog 81 #[.agg #[.int .i64 uqk, .int .i64 uqn, .string uqs, .slice A uql.length (capF uql.length c)]] X fun e w' => ∃ A c, e = .returned (.agg #[.int .i64 2, .int .i64 0, .string (⟨#[]⟩ : ByteArray), .slice A 1 (capF 1 c)]) ∧ EIn w' Z (lam7 (.node uqk uqn uqs uql)) A ∧ Below X.heap.size X w') := Lib.hid fun X _ Z hZ A c hA => lam7_any (.node uqk uqn uqs uql) A c X Z hA hZ
  have HTW2 : Hid (∀ X, Below wc.heap.size wc X → ∀ (Z : Nat → Prop) (hZ : ∀ g, X.heap.size ≤ g → Z g) (A : Option Addr) (c : Nat) (hA : EIn X Z (lam7 (.node uqk uqn uqs uql)) A) (B : Option Addr) (d : Nat) (hB : EIn X Z (two7 3 loop7 (lam7 (.node upk upn ups upl))) B), Calls Tryz.prog 83 #[.int .i64 3, .agg #[.int .i64 2, .int .i64 0, .string (⟨#[]⟩ : ByteArray), .slice A 1 (capF 1 c)], .agg #[.int .i64 3, .int .i64 0, .string (⟨#[]⟩ : ByteArray), .slice B 2 (capF 2 d)]] X fun e w' => ∃ A c, e = .returned (.agg #[.int .i64 3, .int .i64 0, .string (⟨#[]⟩ : ByteArray), .slice A 2 (capF 2 c)]) ∧ EIn w' Z (two7 3 (lam7 (.node uqk uqn uqs uql)) (two7 3 loop7 (lam7 (.node upk upn ups upl)))) A ∧ Below X.heap.size X w') := Lib.hid fun X _ Z hZ A c hA B d hB => two7_any 3 (lam7 (.node uqk uqn uqs uql)) (two7 3 loop7 (lam7 (.node upk upn ups upl))) A B c d X Z (by decide) (by decide) hA hB hZ
  replace hb0 := hb0.trans (hbx.mono hb0.size)
  clear hLr HSS hc hLf hbx HLM HTW HLP HTEp
  have HSS := HSS2
  clear HSS2
  have hLr := hLr'
  clear hLr'
  go_upto_region 12 with fail
  have hb_1 : Below wc.heap.size wc wc := Below.refl _ _
  refine wp_region_K (S := (fun V' : World => (V'.cell? ⟨w.heap.size, 0, none⟩ = some (.int .i64 5) ∧ V'.cell? ⟨w.heap.size, 1, none⟩ = some (.string s) ∧ V'.cell? ⟨w.heap.size, 2, none⟩ = some (.int .i64 n) ∧ V'.cell? ⟨w.heap.size, 3, none⟩ = some (.int .i64 a) ∧ V'.cell? ⟨w.heap.size, 4, none⟩ = some (.slice (some ⟨gp, op, none⟩) m c) ∧ V'.cell? ⟨gp, op, none⟩ = some (.int .i64 pk) ∧ V'.cell? ⟨gp, op + 1, none⟩ = some (.string ps) ∧ V'.cell? ⟨gp, op + 2, none⟩ = some (.int .i64 pn) ∧ V'.cell? ⟨gp, op + 3, none⟩ = some (.int .i64 pa) ∧ V'.cell? ⟨gp, op + 4, none⟩ = some (.slice Ap pl.length (capF pl.length cp)) ∧ V'.cell? ⟨gp, op + 5, none⟩ = some (.int .i64 qk) ∧ V'.cell? ⟨gp, op + 6, none⟩ = some (.string qs) ∧ V'.cell? ⟨gp, op + 7, none⟩ = some (.int .i64 qn) ∧ V'.cell? ⟨gp, op + 8, none⟩ = some (.int .i64 qa) ∧ V'.cell? ⟨gp, op + 9, none⟩ = some (.slice Aq ql.length (capF ql.length cq)) ∧ V'.cell? ⟨gf, 0, none⟩ = some (.int .i64 3) ∧ V'.cell? ⟨gf, 1, none⟩ = some (.int .i64 0) ∧ V'.cell? ⟨gf, 2, none⟩ = some (.string (⟨#[]⟩ : ByteArray)) ∧ V'.cell? ⟨gf, 3, none⟩ = some (.slice Af 2 (capF 2 cf))))) 12 rfl (HSS.out _ hb_1.drew) (fun hSs => ?_)
  change wpAnyK _ _ _ _ _ _ 13 (Array.replicate 13 false) _ _
  refine tkA (i := 0) (oi := ⟨some 78, _, _, _, _, _⟩) (v := .pointer (some ⟨w.heap.size, 4, none⟩)) hSs ?_
  try go_frame
  refine tkA (i := 1) (oi := ⟨some 79, _, _, _, _, _⟩) (v := .slice (some ⟨gp, op, none⟩) m c) hSs ?_
  try go_frame
  refine tkA (i := 2) (oi := ⟨some 80, _, _, _, _, _⟩) (v := .pointer (some ⟨gp, op + 5, none⟩)) hSs ?_
  try go_frame
  refine tkA (i := 3) (oi := ⟨some 81, _, _, _, _, _⟩) (v := .agg #[.int .i64 qk, .string qs, .int .i64 qn, .int .i64 qa, .slice Aq ql.length (capF ql.length cq)]) hSs ?_
  try go_frame
  refine tkB (i := 4) (oi := ⟨some 82, _, _, _, _, _⟩) (v := .slice Ab mb cb) hSs ?_
  try go_frame
  refine tkA (i := 5) (oi := ⟨some 83, _, _, _, _, _⟩) (v := .pointer (some ⟨w.heap.size, 1, none⟩)) hSs ?_
  try go_frame
  refine tkA (i := 6) (oi := ⟨some 84, _, _, _, _, _⟩) (v := .string s) hSs ?_
  try go_frame
  refine tkA (i := 10) (oi := ⟨some 88, _, _, _, _, _⟩) (v := .agg #[.int .i64 3, .int .i64 0, .string (⟨#[]⟩ : ByteArray), .slice Af 2 (capF 2 cf)]) hSs ?_
  try go_frame
  refine wpAnyK_one  (i := 7) rfl rfl (by kernel_rfl) (fun K hK => ?_)
  go_simp
  refine (HWI.out _ (hb_1.drew)).mono ?_
  rintro e u_2 ⟨A_2, c_2, rfl, hS_2x, hq_2⟩
  have hb_2 := (hb_1.drew).trans (hq_2.mono (hb_1.drew).size)
  have hLr_2 := (hLr.drew).below hq_2 hLr.lt
  have hEf_2 := EIn.below _ (EIn.below _ hEf (Below.refl _ _).drew (Nat.le_refl _)) hq_2 (Nat.le_refl _)
  refine hK.out _ _ (fun _ => HSS.out _ hb_2) (fun hS9 => ?_)
  have hS_2 := hS9 (by decide)
  clear hK K hS9
  try go_frame
  refine wpAnyK_one  (i := 8) rfl rfl (by kernel_rfl) (fun K hK => ?_)
  go_simp
  refine (HTEq.out _ hb_2 (fun g => w.heap.size + 2 ≤ g) (fun g h => Nat.le_trans (Nat.le_trans hBc hb_2.size) h) A_2 c_2 hS_2x).mono ?_
  rintro e u_3 ⟨A_3, c_3, rfl, hT_3, hq_3⟩
  have hb_3 := hb_2.trans (hq_3.mono hb_2.size)
  have hLr_2_3 := hLr_2.below hq_3 hLr_2.lt
  have hEf_2_3 := EIn.below _ hEf_2 hq_3 (Nat.le_refl _)
  refine hK.out _ _ (fun _ => HSS.out _ hb_3) (fun hS9 => ?_)
  have hS_3 := hS9 (by decide)
  clear hK K hS9
  try go_frame
  refine wpAnyK_one  (i := 9) rfl rfl (by kernel_rfl) (fun K hK => ?_)
  go_simp
  refine (HLM2.out _ hb_3 (fun g => w.heap.size + 2 ≤ g) (fun g h => Nat.le_trans (Nat.le_trans hBc hb_3.size) h) A_3 c_3 hT_3).mono ?_
  rintro e u_4 ⟨A_4, c_4, rfl, hT_4, hq_4⟩
  have hb_4 := hb_3.trans (hq_4.mono hb_3.size)
  have hLr_2_3_4 := hLr_2_3.below hq_4 hLr_2_3.lt
  have hEf_2_3_4 := EIn.below _ hEf_2_3 hq_4 (Nat.le_refl _)
  have hT_3_4 := EIn.below _ hT_3 hq_4 (Nat.le_refl _)
  refine hK.out _ _ (fun _ => HSS.out _ hb_4) (fun hS9 => ?_)
  have hS_4 := hS9 (by decide)
  clear hK K hS9
  try go_frame
  refine wpAnyK_one  (i := 11) rfl rfl (by kernel_rfl) (fun K hK => ?_)
  go_simp
  refine (HTW2.out _ hb_4 (fun g => w.heap.size + 2 ≤ g) (fun g h => Nat.le_trans (Nat.le_trans hBc hb_4.size) h) A_4 c_4 hT_4 Af cf hEf_2_3_4).mono ?_
  rintro e u_5 ⟨A_5, c_5, rfl, hT_5, hq_5⟩
  have hb_5 := hb_4.trans (hq_5.mono hb_4.size)
  have hLr_2_3_4_5 := hLr_2_3_4.below hq_5 hLr_2_3_4.lt
  have hEf_2_3_4_5 := EIn.below _ hEf_2_3_4 hq_5 (Nat.le_refl _)
  have hT_3_4_5 := EIn.below _ hT_3_4 hq_5 (Nat.le_refl _)
  have hT_4_5 := EIn.below _ hT_4 hq_5 (Nat.le_refl _)
  refine hK.out _ _ (fun _ => HSS.out _ hb_5) (fun hS9 => ?_)
  have hS_5 := hS9 (by decide)
  clear hK K hS9
  try go_frame
  refine wpAnyK_one  (i := 12) rfl rfl (by kernel_rfl) (fun K hK => ?_)
  refine wp_store_as (F := fun W9 => Below w.heap.size w W9 ∧ Lies W9 (w.heap.size + 1) 24 #[.int .i64 3, .int .i64 0, .string (⟨#[]⟩ : ByteArray), .slice A_5 2 (capF 2 c_5)] ∧ EIn W9 (fun g => w.heap.size + 2 ≤ g) (two7 3 (lam7 (.node uqk uqn uqs uql)) (two7 3 loop7 (lam7 (.node upk upn ups upl)))) A_5) _ _ _ rfl (w.heap.size + 1) 0 #[.int .i64 3, .int .i64 0, .string (⟨#[]⟩ : ByteArray), .slice A_5 2 (capF 2 c_5)] rfl rfl (lies_is hLr_2_3_4_5 rfl) (by kernel_rfl) (by simp [Value.oneCell']) ⟨below_cells (hb0.trans (hb_5.mono hb0.size)) (by omega) _ _, lies_set4 hLr_2_3_4_5 _ _ _ _, ein_offs _ hT_5 (by omega) _ _⟩ (fun W_6 hF_6 => ?_)
  refine hK.out _ _ (fun h => absurd rfl h) (fun _ => ?_)
  clear hK K
  try go_frame
  refine wpAnyK_done (by kernel_rfl) ?_ _
  obtain ⟨f1, f2, f3⟩ := hF_6
  go_wp2_with fail
  refine bodyPost_ret (res_term (p := 4) Tryz.results52 rfl f2) rfl ?_
  rw [HE.out]
  exact ⟨A_5, c_5, rfl, EIn.wide _ f3 (fun g h _ => by have h9 : w.heap.size + 2 ≤ g := h; omega), f1⟩
def AIn (w : World) (X : Nat → Prop) (l : List (ByteArray × Int)) (A : Option Addr) : Prop :=
 ∀ (i : Nat) (hi : i < l.length), ∃ g o, A = some ⟨g, o, none⟩ ∧ X g ∧ w.cell? ⟨g, o + i * 2, none⟩ = some (.string (l[i]'hi).1) ∧ w.cell? ⟨g, o + i * 2 + 1, none⟩ = some (.int .i64 (l[i]'hi).2)
theorem AIn.keep {w w' : World} {X Y : Nat → Prop} {l : List (ByteArray × Int)} {A : Option Addr} (h : AIn w X l A) (hk : ∀ g j, X g → g < w.heap.size → w'.cell? ⟨g, j, none⟩ = w.cell? ⟨g, j, none⟩ ∧ Y g) : AIn w' Y l A := fun i hi => by
 obtain ⟨g, o, hA, hX, hc, hd⟩ := h i hi
 have := hk g (o + i * 2) hX (cell_lt hc)
 exact ⟨g, o, hA, this.2, this.1.trans hc, (hk g (o + i * 2 + 1) hX (cell_lt hc)).1.trans hd⟩
theorem AIn.below {w w' : World} {X : Nat → Prop} {l : List (ByteArray × Int)} {A : Option Addr} {B : Nat} (h : AIn w X l A) (hb : Below B w w') (hB : w.heap.size ≤ B) : AIn w' X l A :=
 h.keep fun g j hX hlt => ⟨hb.cell (p := ⟨g, j, none⟩) (by show g < B; omega), hX⟩
theorem AIn.any {w : World} {X : Nat → Prop} {l : List (ByteArray × Int)} {A : Option Addr} (h : AIn w X l A) : AIn w Any l A := h.keep fun _ _ _ _ => ⟨rfl, trivial⟩
def cellsA (l : List (ByteArray × Int)) : List Value := l.flatMap fun a => [.string a.1, .int .i64 a.2]
theorem cellsA_len (l : List (ByteArray × Int)) : (cellsA l).length = l.length * 2 := by
 induction l with
 | nil => rfl
 | cons a r ih => simp [cellsA] at ih ⊢; omega
theorem cellsA_at (l : List (ByteArray × Int)) (i : Nat) (hi : i < l.length) : (cellsA l)[i * 2]? = some (.string (l[i]'hi).1) ∧ (cellsA l)[i * 2 + 1]? = some (.int .i64 (l[i]'hi).2) := by
 induction l generalizing i with
 | nil => simp at hi
 | cons a r ih =>
  cases i with
  | zero => exact ⟨rfl, rfl⟩
  | succ i =>
   have := ih i (by simpa using hi)
   rw [show (i + 1) * 2 = i * 2 + 2 from by omega, show i * 2 + 2 + 1 = i * 2 + 1 + 2 from by omega]
   exact this
theorem cellsA_split (l : List (ByteArray × Int)) (j : Nat) (u : Value) (h : (cellsA l)[j]? = some u) : ∃ (i : Nat) (hi : i < l.length), (j = i * 2 ∧ u = .string (l[i]'hi).1) ∨ (j = i * 2 + 1 ∧ u = .int .i64 (l[i]'hi).2) := by
 have hj : j < (cellsA l).length := by
  by_cases hx : j < (cellsA l).length
  ·exact hx
  ·rw [List.getElem?_eq_none (by omega)] at h; cases h
 rw [cellsA_len] at hj
 have hi : j / 2 < l.length := by omega
 have h2 := cellsA_at l (j / 2) hi
 rcases (by omega : j = j / 2 * 2 ∨ j = j / 2 * 2 + 1) with e | e
 ·rw [e, h2.1] at h; cases h; exact ⟨j / 2, hi, .inl ⟨e, rfl⟩⟩
 ·rw [e, h2.2] at h; cases h; exact ⟨j / 2, hi, .inr ⟨e, rfl⟩⟩
theorem AIn.owned {w : World} {base n c : Nat} {A : Option Addr} {l : List (ByteArray × Int)} (h : w.ownsRow base 124 2 (.slice A n c) n (cellsA l)) : AIn w (fun g => base ≤ g) l A := by
 have hl : l.length = n := by have := h.1; rw [cellsA_len] at this; omega
 rcases h.2 with ⟨hv, rfl⟩ | ⟨g, cap, cur, hv, hb, hg, hc, _, hz, ht⟩
 ·intro i hi; omega
 ·cases hv
  intro i hi
  have h2 := cellsA_at l i hi
  rw [← ht, List.getElem?_take_of_lt (by omega), List.getElem?_take_of_lt (by omega)] at h2
  refine ⟨g, 0, rfl, hb, ?_, ?_⟩
  ·simp only [World.cell?, hg, Nat.zero_add]; simpa using h2.1
  ·simp only [World.cell?, hg, Nat.zero_add]; simpa using h2.2
theorem AIn.cells {w : World} {X : Nat → Prop} {l : List (ByteArray × Int)} {ad : Addr} (h : AIn w X l (some ad)) : ∀ j u, (cellsA l)[j]? = some u → w.cell? (ad.add j) = some u := fun j u hu => by
 obtain ⟨i, hi, hh⟩ := cellsA_split l j u hu
 obtain ⟨g, o, hA, _, hc, hd⟩ := h i hi
 cases hA
 have hadd : (⟨g, o, none⟩ : Addr).add j = ⟨g, o + j, none⟩ := by unfold Addr.add; split <;> simp_all
 rw [hadd]
 rcases hh with ⟨rfl, rfl⟩ | ⟨rfl, rfl⟩
 ·exact hc
 ·exact hd
theorem infoA : (Tryz.prog.info? 124).map (fun i => (i.zero, i.size, i.bytes)) = some (some (.agg #[.string ⟨#[]⟩, .int .i64 0]), 2, 24) := by kernel_rfl
set_option maxHeartbeats 1000000 in
theorem of5_any (l : List (ByteArray × Int)) (s : ByteArray) (A : Option Addr) (m c : Nat) (w : World) (hm : m = l.length) (hm2 : m ≤ 100000) (hI : AIn w Any l A) :
  Calls Tryz.prog 111 #[.slice A m c, .string s] w fun e w' => e = .returned (.int .i64 (ofN l s)) ∧ Below w.heap.size w w' := by
 have hm1 : l.length ≤ m := by omega
 have hm3 : m ≤ l.length := by omega
 clear hm
 have HI := Lib.hid hI
 have HN : Hid (ofN (l.drop 0) s = ofN l s) := Lib.hid (by rw [List.drop_zero])
 clear hI
 go_enter Tryz.func111, Tryz.ntmps111
 go_wp2_with fail
 go_loopw [5] (fun x wr => ∃ i : Nat, i ≤ m ∧ x = .int .i64 i ∧ Hid (ofN (l.drop i) s = ofN l s) ∧ Below w.heap.size w wr) (fun x _ => m - (intOf x).toNat)
 case atStart => exact ⟨0, by omega, rfl, HN, Below.refl _ w⟩
 case round =>
  obtain ⟨i, hi, rfl, HQ, hbw⟩ := hrel
  have hbs := hbw.size
  by_cases hlt : i < m
  ·have hia : i < l.length := by omega
   obtain ⟨g, o, rfl, _, d0, d1⟩ := (HI.out.below hbw (Nat.le_refl _)) i hia
   have HD : Hid (ofN (l.drop i) s = if (l[i]'hia).1 = s then (l[i]'hia).2 else ofN (l.drop (i + 1)) s) := Lib.hid (by rw [List.drop_eq_getElem_cons hia, ofN])
   obtain ⟨x, hx⟩ : ∃ x, x = (l[i]'hia).1 := ⟨_, rfl⟩
   obtain ⟨v, hv⟩ : ∃ v, v = (l[i]'hia).2 := ⟨_, rfl⟩
   rw [← hx] at d0 HD
   rw [← hv] at d1 HD
   clear hx hv
   by_cases hxs : x = s
   ·have h1 : (x.toList == s.toList) = true := by rw [hxs]; exact BEq.rfl
    have HR : Hid (ofN l s = v) := Lib.hid (by rw [← HQ.out, HD.out, if_pos hxs])
    clear hxs
    go_wp2_with fail
    go_ret
    exact ⟨ret_int HR.out.symm, hbw⟩
   ·have h1 : (x.toList == s.toList) = false := by rw [ename_q, decide_eq_false hxs]
    have HR : Hid (ofN (l.drop (i + 1)) s = ofN l s) := Lib.hid (by rw [← HQ.out, HD.out, if_neg hxs])
    clear hxs
    go_wp2_with fail
    go_roundw
    case rel => exact ⟨i + 1, by omega, by go_num, HR, hbw⟩
    case measure => simp [intOf]; omega
  ·go_wp2_with fail
   go_ret
   obtain rfl : i = m := by omega
   have := HQ.out
   rw [List.drop_of_length_le hm1] at this
   exact ⟨ret_int (by rw [← this]; rfl), hbw⟩
theorem own5_any (k n a : Int) (s : ByteArray) (A : Option Addr) (l : List Tr) (m c : Nat) (w : World) (hm : m = l.length) :
  Calls Tryz.prog 110 #[.agg #[.int .i64 k, .string s, .int .i64 n, .int .i64 a, .slice A m c]] w fun e w' => e = .returned (.int .i64 (ownN k n l)) ∧ Below w.heap.size w w' := by
 have hb : Below w.heap.size w (w.alloc (.cells #[.int .i64 k, .string s, .int .i64 n, .int .i64 a, .slice A m c] 49)) := (Below.refl _ w).alloc (Nat.le_refl _) _
 have HE : Hid (ownN k n l = if k = 6 then (m : Int) else if k = 8 then n else -1) := Lib.hid (by rw [hm]; rfl)
 clear hm
 rcases (by omega : k = 6 ∨ k = 8 ∨ (k ≠ 6 ∧ k ≠ 8)) with rfl | rfl | ⟨h2, h6⟩
 ·go_enter Tryz.func110, Tryz.ntmps110
  go_wp2_with fail
  go_ret
  exact ⟨ret_int (by rw [HE.out]; rfl), hb⟩
 ·go_enter Tryz.func110, Tryz.ntmps110
  go_wp2_with fail
  go_ret
  exact ⟨ret_int (by rw [HE.out]; rfl), hb⟩
 ·have e2 : (k == 6) = false := by simpa using h2
  have e6 : (k == 8) = false := by simpa using h6
  have HF : Hid (ownN k n l = -1) := Lib.hid (by rw [HE.out, if_neg h2, if_neg h6])
  clear h2 h6
  go_enter Tryz.func110, Tryz.ntmps110
  go_wp2_with fail
  go_ret
  exact ⟨ret_int HF.out.symm, hb⟩
theorem from5_any (k n a : Int) (s : ByteArray) (A : Option Addr) (m c : Nat) (w : World) (hn : k = 8 → 0 ≤ n) :
  Calls Tryz.prog 113 #[.agg #[.int .i64 k, .string s, .int .i64 n, .int .i64 a, .slice A m c]] w fun e w' => e = .returned (.int .i64 (fromN k n)) ∧ Below w.heap.size w w' := by
 have hb : Below w.heap.size w (w.alloc (.cells #[.int .i64 k, .string s, .int .i64 n, .int .i64 a, .slice A m c] 49)) := (Below.refl _ w).alloc (Nat.le_refl _) _
 by_cases h8 : k = 8
 ·have h0 := hn h8
  subst h8
  have HE : Hid (((fromN 8 n : Nat) : Int) = n) := Lib.hid (by rw [fromN, if_pos rfl]; omega)
  go_enter Tryz.func113, Tryz.ntmps113
  go_wp2_with fail
  go_ret
  exact ⟨ret_int HE.out.symm, hb⟩
 ·have e2 : (k == 8) = false := by simpa using h8
  have HE : Hid (((fromN k n : Nat) : Int) = 0) := Lib.hid (by rw [fromN, if_neg h8]; rfl)
  clear hn h8
  go_enter Tryz.func113, Tryz.ntmps113
  go_wp2_with fail
  go_ret
  exact ⟨ret_int HE.out.symm, hb⟩
theorem inN_snoc (l : List ByteArray) (x s : ByteArray) : inN (l ++ [x]) s = (inN l s || decide (x = s)) := by
 induction l with
 | nil => simp [inN]
 | cons a r ih => simp only [List.cons_append, inN, ih, Bool.or_assoc]
theorem twiceN_snoc (l : List ByteArray) (s : ByteArray) : twiceN (l ++ [s]) = (twiceN l || inN l s) := by
 induction l with
 | nil => simp [twiceN, inN]
 | cons a r ih =>
  simp only [List.cons_append, twiceN, ih, inN_snoc, inN]
  have : decide (s = a) = decide (a = s) := by rw [decide_eq_decide]; exact eq_comm
  rw [this]
  cases inN r a <;> cases twiceN r <;> cases inN r s <;> cases decide (a = s) <;> rfl
theorem twiceN_app (l r : List ByteArray) (h : twiceN l = true) : twiceN (l ++ r) = true := by
 induction l with
 | nil => simp [twiceN] at h
 | cons a q ih =>
  simp only [List.cons_append, twiceN, Bool.or_eq_true] at h ⊢
  rcases h with h | h
  ·refine .inl ?_
   have : ∀ (q r : List ByteArray), inN q a = true → inN (q ++ r) a = true := by
    intro q r
    induction q with
    | nil => intro h; simp [inN] at h
    | cons b q ih => intro h; simp only [List.cons_append, inN, Bool.or_eq_true] at h ⊢; rcases h with h | h; exact .inl h; exact .inr (ih h)
   exact this q r h
  ·exact .inr (ih h)
theorem varsN_eq : ∀ (l : List Tr) (n : Int), 0 ≤ n → varsN n l = (l.take n.toNat).map Tr.name
 | [], n, _ => by simp [varsN]
 | t :: r, n, h => by
  rw [varsN]
  split
  ·obtain rfl : n = 0 := by omega
   rfl
  ·rw [varsN_eq r (n - 1) (by omega)]
   obtain ⟨j, hj⟩ : ∃ j, n.toNat = j + 1 := ⟨n.toNat - 1, by omega⟩
   rw [hj, show (n - 1).toNat = j from by omega]
   rfl
theorem varsN_at (l : List Tr) (n : Int) (h0 : 0 ≤ n) (i : Nat) (hi : (i : Int) < n) (hl : i < l.length) : (varsN n l)[i]? = some (l[i]'hl).name := by
 rw [varsN_eq l n h0, List.getElem?_map, List.getElem?_take_of_lt (by omega), List.getElem?_eq_getElem hl]; rfl
theorem varsN_len (l : List Tr) (n : Int) (h0 : 0 ≤ n) (hn : n ≤ l.length) : ((varsN n l).length : Int) = n := by
 rw [varsN_eq l n h0, List.length_map, List.length_take]; omega
theorem varsN_take (l : List Tr) (n : Int) (h0 : 0 ≤ n) (i : Nat) (hi : (i : Int) < n) (hl : i < l.length) : (varsN n l).take (i + 1) = (varsN n l).take i ++ [(l[i]'hl).name] := by
 have h := varsN_at l n h0 i hi hl
 obtain ⟨hlt, he⟩ := List.getElem?_eq_some_iff.1 h
 rw [List.take_succ_eq_append_getElem hlt, he]
set_option maxHeartbeats 4000000 in
theorem twice5_any (k n a : Int) (s : ByteArray) (l : List Tr) (A : Option Addr) (m c : Nat) (w : World) (hm : m = l.length) (hm9 : m ≤ 100000) (h0 : 0 ≤ n) (hn : n ≤ m) (hI : LIn w Any l A 0) :
  Calls Tryz.prog 112 #[.agg #[.int .i64 k, .string s, .int .i64 n, .int .i64 a, .slice A m c]] w fun e w' => e = .returned (.bool (twiceN (varsN n l))) ∧ Below w.heap.size w w' := by
 have hb : Below w.heap.size w (w.alloc (.cells #[.int .i64 k, .string s, .int .i64 n, .int .i64 a, .slice A m c] 49)) := (Below.refl _ w).alloc (Nat.le_refl _) _
 have hL := Lies.new w 49 #[.int .i64 k, .string s, .int .i64 n, .int .i64 a, .slice A m c]
 have hm1 : m ≤ l.length := by omega
 have HI := Lib.hid hI
 have HV : Hid (((varsN n l).length : Int) = n) := Lib.hid (varsN_len l n h0 (by omega))
 have HVA : Hid (∀ (i : Nat) (hi : (i : Int) < n) (hl : i < l.length), (varsN n l).take (i + 1) = (varsN n l).take i ++ [(l[i]'hl).name]) := Lib.hid (varsN_take l n h0)
 have HT0 : Hid (twiceN ((varsN n l).take 0) = false) := Lib.hid rfl
 have HI0 : ∀ x, Hid (inN ((varsN n l).take 0) x = false) := fun x => Lib.hid rfl
 have HTW : Hid (∀ i : Nat, twiceN ((varsN n l).take i) = true → twiceN (varsN n l) = true) := Lib.hid fun i h => by
  rw [← List.take_append_drop i (varsN n l)]; exact twiceN_app _ _ h
 have HIN : Hid (∀ (i q : Nat) (x : ByteArray), q ≤ i → inN ((varsN n l).take q) x = true → inN ((varsN n l).take i) x = true) := Lib.hid fun i q x hq h => by
  have e : (varsN n l).take i = (varsN n l).take q ++ ((varsN n l).take i).drop q := by
   have := List.take_append_drop q ((varsN n l).take i)
   rw [List.take_take, Nat.min_eq_left hq] at this
   exact this.symm
  rw [e]
  generalize ((varsN n l).take i).drop q = r
  revert h
  generalize (varsN n l).take q = p
  intro h
  induction p with
  | nil => simp [inN] at h
  | cons b p ih => simp only [List.cons_append, inN, Bool.or_eq_true] at h ⊢; rcases h with h | h; exact .inl h; exact .inr (ih h)
 clear hI hm
 go_enter Tryz.func112, Tryz.ntmps112
 go_wp2_with fail
 go_loopw [3] (fun x wr => ∃ i : Nat, (i : Int) ≤ n ∧ x = .int .i64 i ∧ Hid (twiceN ((varsN n l).take i) = false) ∧ Lies wr w.heap.size 49 #[.int .i64 k, .string s, .int .i64 n, .int .i64 a, .slice A m c] ∧ Below w.heap.size w wr) (fun x _ => n.toNat - (intOf x).toNat)
 case atStart => exact ⟨0, by omega, rfl, HT0, hL, hb⟩
 case round =>
  obtain ⟨i, hi, rfl, HQ, hLr, hbw⟩ := hrel
  have hbs := hbw.size
  have c2 := hLr.five.1.2.2.1
  by_cases hlt : (i : Int) < n
  ·have hia : i < l.length := by omega
   have him : i < m := by omega
   obtain ⟨g, o, A', c', ⟨hA, _⟩, d0, d1, d2, d3, d4, _⟩ := LIn.at_ l (LIn.keep l HI.out fun g j _ h => ⟨hbw.cell (p := ⟨g, j, none⟩) h, trivial⟩) i hia
   subst hA
   simp only [Nat.zero_add] at d1
   have HN1 : Hid ((varsN n l).take (i + 1) = (varsN n l).take i ++ [(l[i]'hia).name]) := Lib.hid (HVA.out i hlt hia)
   obtain ⟨x, hx⟩ : ∃ x, x = (l[i]'hia).name := ⟨_, rfl⟩
   rw [← hx] at d1 HN1
   clear hx d0 d2 d3 d4
   have hgw : g < w.heap.size := by obtain ⟨g0, o0, A0, c0, ⟨hA0, _⟩, hx0, _⟩ := LIn.at_ l HI.out i hia; cases hA0; exact cell_lt hx0
   have HD1 : Hid (∀ V, Below w.heap.size w V → V.cell? ⟨g, o + i * 5 + 1, none⟩ = some (.string x)) := Lib.hid fun V h => (h.cell (p := ⟨g, o + i * 5 + 1, none⟩) hgw).trans ((hbw.cell (p := ⟨g, o + i * 5 + 1, none⟩) hgw).symm.trans d1)
   go_wp2_with fail
   go_loopw [4] (fun y wr2 => ∃ q : Nat, q ≤ i ∧ y = .int .i64 q ∧ Hid (inN ((varsN n l).take q) x = false) ∧ Lies wr2 w.heap.size 49 #[.int .i64 k, .string s, .int .i64 n, .int .i64 a, .slice (some ⟨g, o, none⟩) m c] ∧ Below w.heap.size w wr2) (fun y _ => i - (intOf y).toNat)
   case atStart => exact ⟨0, by omega, rfl, HI0 x, hLr, hbw⟩
   case round =>
    clear hLr hbw hbs d1 c2
    obtain ⟨q, hq, rfl, HP, hLr, hbw⟩ := hrel
    have hbs := hbw.size
    have c2 := hLr.five.1.2.2.1
    have d1 := (HD1.out _ hbw)
    by_cases hlq : q < i
    ·have hqa : q < l.length := by omega
     have hqm : q < m := by omega
     have hqi : (q : Int) < (i : Int) := by omega
     obtain ⟨g', o', A', c', ⟨hA, _⟩, e0, e1, e2, e3, e4, _⟩ := LIn.at_ l (LIn.keep l HI.out fun g j _ h => ⟨hbw.cell (p := ⟨g, j, none⟩) h, trivial⟩) q hqa
     injection hA with hA
     injection hA with hA hA1
     subst hA hA1
     simp only [Nat.zero_add] at e1
     have HN2 : Hid ((varsN n l).take (q + 1) = (varsN n l).take q ++ [(l[q]'hqa).name]) := Lib.hid (HVA.out q (by omega) hqa)
     obtain ⟨z, hz⟩ : ∃ z, z = (l[q]'hqa).name := ⟨_, rfl⟩
     rw [← hz] at e1 HN2
     clear hz e0 e2 e3 e4
     obtain ⟨⟨c0, c1, _, c3, c4⟩, _⟩ := hLr.five
     by_cases hxz : x = z
     ·have h1 : (x.toList == z.toList) = true := by rw [hxz]; exact BEq.rfl
      have HR : Hid (twiceN (varsN n l) = true) := Lib.hid (HTW.out (i + 1) (by
       rw [HN1.out, twiceN_snoc, HIN.out i (q + 1) x (by omega) (by rw [HN2.out, inN_snoc, hxz]; simp), Bool.or_true]))
      clear hxz
      go_upto_region 7 with fail
      go_quiet (fail)
      go_wp2_with fail
      go_ret
      exact ⟨ret_bool HR.out.symm, below_drewN hbw _⟩
     ·have h1 : (x.toList == z.toList) = false := by rw [ename_q, decide_eq_false hxz]
      have HR : Hid (inN ((varsN n l).take (q + 1)) x = false) := Lib.hid (by
       rw [HN2.out, inN_snoc, HP.out, Bool.false_or, decide_eq_false (fun e => hxz e.symm)])
      clear hxz
      go_upto_region 7 with fail
      go_quiet (fail)
      go_wp2_with fail
      go_roundw
      case rel => exact ⟨q + 1, by omega, by go_num, HR, hLr, below_drewN hbw _⟩
      case measure => simp [intOf]; omega
    ·have hqi : ¬ (q : Int) < (i : Int) := by omega
     obtain rfl : q = i := by omega
     have HR : Hid (twiceN ((varsN n l).take (q + 1)) = false) := Lib.hid (by rw [HN1.out, twiceN_snoc, HQ.out, HP.out]; rfl)
     go_wp2_with fail
     go_roundw
     case rel => exact ⟨q + 1, by omega, by go_num, HR, hLr, hbw⟩
     case measure => simp [intOf]; omega
  ·go_wp2_with fail
   go_ret
   have e1 := HV.out
   have := HQ.out
   rw [List.take_of_length_le (by omega)] at this
   exact ⟨ret_bool this.symm, hbw⟩
end Lx
end Go.Proofs.YtiocmiikghcoaaaGreatDoor
