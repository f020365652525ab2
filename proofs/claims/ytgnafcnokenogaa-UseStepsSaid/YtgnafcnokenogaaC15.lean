/-
  Texts that lie one behind the other: H9P H9W Hr H9S H9F.
-/
import Derived.Test.YtgnafcnokenogaaC11
import Derived.Test.YtgnafcnokenogaaC14
import Derived.Test.YtgnafcnokenogaaC2
import Derived.Test.YtgnafcnokenogaaC7
import Derived.Deep.RegionHeld3
import Derived.Deep.DrawnRows
import Derived.BigQuiet
import Derived.Deep.AppendLies
namespace Go.Proofs.Ytgnafcnokenogaa
open Go.RowKit
namespace Lx
set_option maxRecDepth 100000
def FineR (t : Te) : Prop := depthE t ≤ 12000 ∧ sizeE t ≤ 100000 ∧ tameE 1099511627776 1099511627776 t
set_option maxHeartbeats 8000000 in
theorem pick_any (t : Te) (A : Option Addr) (c0 : Nat) (w : World) (hI : EIn w Any t A) (hl0 : 0 < t.parts.length) (hml : t.parts.length ≤ 100000) (hsl : (prt t.parts 0).parts.length ≤ 100000) (hfs : ∀ u ∈ (prt t.parts 0).parts, FineR u) (hl1 : ∀ i, 1 ≤ i → i < t.parts.length → 1 ≤ (prt t.parts i).parts.length ∧ FineR (prt (prt t.parts i).parts 0)) :
    Calls Try.prog 38 #[ev t A c0] w (GivesS (chooseE (prt t.parts 0) (t.parts.drop 1)).1 (chooseE (prt t.parts 0) (t.parts.drop 1)).2 w) := by
  obtain ⟨tk, tn, ts, tl⟩ := t
  simp only [Te.parts] at hl0 hml hsl hfs hl1
  show Calls Try.prog 38 #[.agg #[.int .i64 tk, .int .i64 tn, .string ts, .slice A tl.length (capF tl.length c0)]] w (GivesS (chooseE (prt tl 0) (tl.drop 1)).1 (chooseE (prt tl 0) (tl.drop 1)).2 w)
  obtain ⟨g0, o0, As, cs0, ⟨hA, _⟩, s0, s1, s2, s3, hIs⟩ := EIn.part hI 0 hl0
  simp only [Te.parts] at s0 s1 s2 s3 hIs
  subst hA
  simp only [Nat.zero_mul, Nat.add_zero] at s0 s1 s2 s3
  have hpe : prt tl 0 = tl[0]'hl0 := by rw [prt, List.getD_eq_getElem?_getD, List.getElem?_eq_getElem hl0]; rfl
  obtain ⟨Q, hQ⟩ : ∃ Q, Q = prt tl 0 := ⟨_, rfl⟩
  rw [← hQ] at hpe hsl hfs
  rw [← hpe] at s0 s1 s2 s3 hIs
  rw [← hQ]
  clear hpe hQ
  obtain ⟨sk, sn, ss, sl⟩ := Q
  simp only [Te.kind, Te.n, Te.name] at s0 s1 s2 s3 hsl hfs
  have hg0 : g0 < w.heap.size := cell_lt s0
  generalize capF sl.length cs0 = cs at *
  obtain ⟨ms, hms⟩ : ∃ m, m = sl.length := ⟨_, rfl⟩
  rw [← hms] at s3 hsl
  have HMS := Lib.hid hms
  obtain ⟨mt, hmt⟩ : ∃ m, m = tl.length := ⟨_, rfl⟩
  generalize hct : capF tl.length c0 = ct
  rw [← hmt]
  have HMT := Lib.hid hmt
  rw [← hmt] at hl0 hml
  have HI := Lib.hid hI
  have HSL : Hid (ELIn w Any sl As 0) := Lib.hid (by rw [EIn] at hIs; exact hIs.2.2)
  have HFS : Hid (∀ u ∈ sl, FineR u) := Lib.hid hfs
  have HL1 : Hid (∀ i, 1 ≤ i → i < tl.length → 1 ≤ (prt tl i).parts.length ∧ FineR (prt (prt tl i).parts 0)) := Lib.hid hl1
  clear hms hmt hct hI hIs hfs hl1
  obtain ⟨R, hR⟩ : ∃ R, R = chooseE (.node sk sn ss sl) (tl.drop 1) := ⟨_, rfl⟩
  rw [← hR]
  have HRR := Lib.hid hR
  clear hR
  have hb0 : Below w.heap.size w ((w.alloc (.cells #[.int .i64 tk, .int .i64 tn, .string ts, .slice (some ⟨g0, o0, none⟩) mt ct] 24)).alloc (.cells #[.int .i64 0, .int .i64 0, .string ⟨#[]⟩, .slice none 0 0] 24)) := below2_new _ _
  have lt : Lies ((w.alloc (.cells #[.int .i64 tk, .int .i64 tn, .string ts, .slice (some ⟨g0, o0, none⟩) mt ct] 24)).alloc (.cells #[.int .i64 0, .int .i64 0, .string ⟨#[]⟩, .slice none 0 0] 24)) w.heap.size 24 #[.int .i64 tk, .int .i64 tn, .string ts, .slice (some ⟨g0, o0, none⟩) mt ct] := (Lies.new w _ _).old _
  have lz : Lies ((w.alloc (.cells #[.int .i64 tk, .int .i64 tn, .string ts, .slice (some ⟨g0, o0, none⟩) mt ct] 24)).alloc (.cells #[.int .i64 0, .int .i64 0, .string ⟨#[]⟩, .slice none 0 0] 24)) (w.heap.size + 1) 24 #[.int .i64 0, .int .i64 0, .string ⟨#[]⟩, .slice none 0 0] := by simpa using Lies.new (w.alloc (.cells #[.int .i64 tk, .int .i64 tn, .string ts, .slice (some ⟨g0, o0, none⟩) mt ct] 24)) 24 #[.int .i64 0, .int .i64 0, .string ⟨#[]⟩, .slice none 0 0]
  have hz0 : ((w.alloc (.cells #[.int .i64 tk, .int .i64 tn, .string ts, .slice (some ⟨g0, o0, none⟩) mt ct] 24)).alloc (.cells #[.int .i64 0, .int .i64 0, .string ⟨#[]⟩, .slice none 0 0] 24)).heap.size = w.heap.size + 2 := by simp
  go_enter Try.func38, Try.ntmps38
  go_upto_region 1 with fail
  generalize ((w.alloc (.cells #[.int .i64 tk, .int .i64 tn, .string ts, .slice (some ⟨g0, o0, none⟩) mt ct] 24)).alloc (.cells #[.int .i64 0, .int .i64 0, .string ⟨#[]⟩, .slice none 0 0] 24)) = W0 at *
  replace s0 := (hb0.cell (p := ⟨g0, _, none⟩) hg0).trans s0
  replace s1 := (hb0.cell (p := ⟨g0, _, none⟩) hg0).trans s1
  replace s2 := (hb0.cell (p := ⟨g0, _, none⟩) hg0).trans s2
  replace s3 := (hb0.cell (p := ⟨g0, _, none⟩) hg0).trans s3
  obtain ⟨⟨y0, y1, y2, y3⟩, _⟩ := lt.four
  have ls : Lies (W0.alloc (.cells #[.int .i64 sk, .int .i64 sn, .string ss, .slice As ms cs] 24)) (w.heap.size + 2) 24 #[.int .i64 sk, .int .i64 sn, .string ss, .slice As ms cs] := lies_next _ _ _ _ hz0.symm
  have lt1 := lt.old (.cells #[.int .i64 sk, .int .i64 sn, .string ss, .slice As ms cs] 24)
  have lz1 := lz.old (.cells #[.int .i64 sk, .int .i64 sn, .string ss, .slice As ms cs] 24)
  have hb1 := hb0.alloc hb0.size (.cells #[.int .i64 sk, .int .i64 sn, .string ss, .slice As ms cs] 24)
  have hsz1 : w.heap.size + 3 ≤ (W0.alloc (.cells #[.int .i64 sk, .int .i64 sn, .string ss, .slice As ms cs] 24)).heap.size := by simp; omega
  go_upto_region 2 with fail
  try simp only [hz0]
  clear s0 s1 s2 s3 y0 y1 y2 y3 hb0 lt lz hz0
  generalize (W0.alloc (.cells #[.int .i64 sk, .int .i64 sn, .string ss, .slice As ms cs] 24)) = W1 at *
  by_cases hk : sk = 4
  · have e4 : (sk == 4) = true := by simpa using hk
    have HP0 : Hid (pickE (.node sk sn ss sl) (tl.drop 1) = R) := Lib.hid (by rw [HRR.out, chooseE]; simp [Te.kind, hk])
    clear hk
    go_wp2_with fail
    go_loopw [5] (fun x wr => ∃ i : Nat, 1 ≤ i ∧ i ≤ mt ∧ x = .int .i64 i ∧ Hid (pickE (.node sk sn ss sl) (tl.drop i) = R) ∧ Lies wr w.heap.size 24 #[.int .i64 tk, .int .i64 tn, .string ts, .slice (some ⟨g0, o0, none⟩) mt ct] ∧ Lies wr (w.heap.size + 1) 24 #[.int .i64 0, .int .i64 0, .string ⟨#[]⟩, .slice none 0 0] ∧ Lies wr (w.heap.size + 2) 24 #[.int .i64 sk, .int .i64 sn, .string ss, .slice As ms cs] ∧ w.heap.size + 3 ≤ wr.heap.size ∧ Below w.heap.size w wr) (fun x _ => mt - (intOf x).toNat)
    case atStart => exact ⟨1, by omega, by omega, rfl, HP0, lt1, lz1, ls, hsz1, hb1⟩
    case round =>
      clear lt1 lz1 ls hsz1 hb1 HP0
      obtain ⟨i, hi1, hi, rfl, HP, lt, lz, ls, hsz, hbw⟩ := hrel
      obtain ⟨⟨y0, y1, y2, y3⟩, _⟩ := lt.four
      obtain ⟨⟨x0, x1, x2, x3⟩, _⟩ := ls.four
      by_cases hlt : i < mt
      · have hia : i < tl.length := by have := HMT.out; omega
        obtain ⟨g, o, Ai, ci0, ⟨hA, _⟩, d0, d1, d2, d3, hIn⟩ := EIn.part HI.out i hia
        simp only [Te.parts] at d0 d1 d2 d3 hIn
        have hA1 : g0 = g := by cases hA; rfl
        have hA2 : o0 = o := by cases hA; rfl
        subst hA1
        subst hA2
        clear hA
        have hq1 := HL1.out i hi1 hia
        have hpe : prt tl i = tl[i]'hia := by rw [prt, List.getD_eq_getElem?_getD, List.getElem?_eq_getElem hia]; rfl
        rw [hpe] at hq1
        have HPD : Hid (pickE (.node sk sn ss sl) (tl.drop i) = if (tl[i]'hia).name = ss ∧ (tl[i]'hia).n = (sl.length : Int) then (instE (prt (tl[i]'hia).parts 0) sl, 2) else pickE (.node sk sn ss sl) (tl.drop (i + 1))) := Lib.hid (by rw [List.drop_eq_getElem_cons hia, pickE]; rfl)
        obtain ⟨tr, hu⟩ : ∃ tr, tr = tl[i]'hia := ⟨_, rfl⟩
        rw [← hu] at d0 d1 d2 d3 hIn hq1 HPD
        clear hu hpe
        obtain ⟨ik, ia, is, il⟩ := tr
        simp only [Te.kind, Te.n, Te.name, Te.parts] at d0 d1 d2 d3 hq1 HPD
        obtain ⟨hl1, hfp⟩ := hq1
        obtain ⟨gp, op, Ap, cp, ⟨hAp, _⟩, p0, p1, p2, p3, hInp⟩ := EIn.part hIn 0 hl1
        simp only [Te.parts] at p0 p1 p2 p3 hInp
        have hpp : prt il 0 = il[0]'hl1 := by rw [prt, List.getD_eq_getElem?_getD, List.getElem?_eq_getElem hl1]; rfl
        obtain ⟨P, hP⟩ : ∃ P, P = il[0]'hl1 := ⟨_, rfl⟩
        rw [← hP] at p0 p1 p2 p3 hInp hpp
        rw [hpp] at hfp HPD
        simp only [Nat.zero_mul, Nat.add_zero] at p0 p1 p2 p3
        subst hAp
        have hgpw : gp < w.heap.size := cell_lt p0
        replace d0 := (hbw.cell (p := ⟨g0, _, none⟩) hg0).trans d0
        replace d1 := (hbw.cell (p := ⟨g0, _, none⟩) hg0).trans d1
        replace d2 := (hbw.cell (p := ⟨g0, _, none⟩) hg0).trans d2
        replace d3 := (hbw.cell (p := ⟨g0, _, none⟩) hg0).trans d3
        replace p0 := (hbw.cell (p := ⟨gp, _, none⟩) hgpw).trans p0
        replace p1 := (hbw.cell (p := ⟨gp, _, none⟩) hgpw).trans p1
        replace p2 := (hbw.cell (p := ⟨gp, _, none⟩) hgpw).trans p2
        replace p3 := (hbw.cell (p := ⟨gp, _, none⟩) hgpw).trans p3
        have hIp := EIn.below _ hInp hbw (Nat.le_refl _)
        have hgr : g0 < wr.heap.size := by omega
        have hgpr : gp < wr.heap.size := by omega
        obtain ⟨mi, hmi⟩ : ∃ m, m = il.length := ⟨_, rfl⟩
        rw [← hmi] at d3 hl1
        generalize capF mi ci0 = ci at *
        clear hP hpp hmi hIn hInp
        obtain ⟨pk, pn, ps, pl⟩ := P
        simp only [Te.kind, Te.n, Te.name] at p0 p1 p2 p3
        rw [← HMS.out] at HPD
        by_cases hn : is = ss
        · have en : (is.toList == ss.toList) = true := by rw [hn]; exact BEq.rfl
          by_cases hc : ia = (ms : Int)
          · have ec : (ia == (ms : Int)) = true := by simpa using hc
            have HE0 : R = (instE (.node pk pn ps pl) sl, 2) := HP.out.symm.trans (HPD.out.trans (if_pos ⟨hn, hc⟩))
            clear hn hc HP HPD
            go_wp2_with fail
            go_quiet (fail)
            obtain ⟨V0, hV0⟩ : ∃ W, W = wr.drewN nq := ⟨_, rfl⟩
            have hV : Below wr.heap.size wr V0 := by rw [hV0]; exact belowN (Below.refl _ _) nq
            rw [← hV0]
            clear hV0
            go_upto_region 6 with fail
            have HS0 : Hid (∀ V', Below wr.heap.size wr V' → (fun V' : World => (V'.cell? ⟨w.heap.size, 0, none⟩ = some (.int .i64 tk) ∧ V'.cell? ⟨w.heap.size, 1, none⟩ = some (.int .i64 tn) ∧ V'.cell? ⟨w.heap.size, 2, none⟩ = some (.string ts) ∧ V'.cell? ⟨w.heap.size, 3, none⟩ = some (.slice (some ⟨g0, o0, none⟩) mt ct) ∧ V'.cell? ⟨w.heap.size + 2, 0, none⟩ = some (.int .i64 sk) ∧ V'.cell? ⟨w.heap.size + 2, 1, none⟩ = some (.int .i64 sn) ∧ V'.cell? ⟨w.heap.size + 2, 2, none⟩ = some (.string ss) ∧ V'.cell? ⟨w.heap.size + 2, 3, none⟩ = some (.slice As ms cs) ∧ V'.cell? ⟨g0, o0 + i * 4, none⟩ = some (.int .i64 ik) ∧ V'.cell? ⟨g0, o0 + i * 4 + 1, none⟩ = some (.int .i64 ia) ∧ V'.cell? ⟨g0, o0 + i * 4 + 2, none⟩ = some (.string is) ∧ V'.cell? ⟨g0, o0 + i * 4 + 3, none⟩ = some (.slice (some ⟨gp, op, none⟩) mi ci) ∧ V'.cell? ⟨gp, op, none⟩ = some (.int .i64 pk) ∧ V'.cell? ⟨gp, op + 1, none⟩ = some (.int .i64 pn) ∧ V'.cell? ⟨gp, op + 2, none⟩ = some (.string ps) ∧ V'.cell? ⟨gp, op + 3, none⟩ = some (.slice Ap pl.length (capF pl.length cp)))) V') := Lib.hid fun V' h =>
              ⟨(h.cell (p := ⟨w.heap.size, 0, none⟩) lt.lt).trans (lt.cell 0), (h.cell (p := ⟨w.heap.size, 1, none⟩) lt.lt).trans (lt.cell 1), (h.cell (p := ⟨w.heap.size, 2, none⟩) lt.lt).trans (lt.cell 2), (h.cell (p := ⟨w.heap.size, 3, none⟩) lt.lt).trans (lt.cell 3), (h.cell (p := ⟨w.heap.size + 2, 0, none⟩) ls.lt).trans (ls.cell 0), (h.cell (p := ⟨w.heap.size + 2, 1, none⟩) ls.lt).trans (ls.cell 1), (h.cell (p := ⟨w.heap.size + 2, 2, none⟩) ls.lt).trans (ls.cell 2), (h.cell (p := ⟨w.heap.size + 2, 3, none⟩) ls.lt).trans (ls.cell 3), (h.cell (p := ⟨g0, _, none⟩) hgr).trans d0, (h.cell (p := ⟨g0, _, none⟩) hgr).trans d1, (h.cell (p := ⟨g0, _, none⟩) hgr).trans d2, (h.cell (p := ⟨g0, _, none⟩) hgr).trans d3, (h.cell (p := ⟨gp, _, none⟩) hgpr).trans p0, (h.cell (p := ⟨gp, _, none⟩) hgpr).trans p1, (h.cell (p := ⟨gp, _, none⟩) hgpr).trans p2, (h.cell (p := ⟨gp, _, none⟩) hgpr).trans p3⟩
            have HSS : Hid (∀ V', Below V0.heap.size V0 V' → (fun V' : World => (V'.cell? ⟨w.heap.size, 0, none⟩ = some (.int .i64 tk) ∧ V'.cell? ⟨w.heap.size, 1, none⟩ = some (.int .i64 tn) ∧ V'.cell? ⟨w.heap.size, 2, none⟩ = some (.string ts) ∧ V'.cell? ⟨w.heap.size, 3, none⟩ = some (.slice (some ⟨g0, o0, none⟩) mt ct) ∧ V'.cell? ⟨w.heap.size + 2, 0, none⟩ = some (.int .i64 sk) ∧ V'.cell? ⟨w.heap.size + 2, 1, none⟩ = some (.int .i64 sn) ∧ V'.cell? ⟨w.heap.size + 2, 2, none⟩ = some (.string ss) ∧ V'.cell? ⟨w.heap.size + 2, 3, none⟩ = some (.slice As ms cs) ∧ V'.cell? ⟨g0, o0 + i * 4, none⟩ = some (.int .i64 ik) ∧ V'.cell? ⟨g0, o0 + i * 4 + 1, none⟩ = some (.int .i64 ia) ∧ V'.cell? ⟨g0, o0 + i * 4 + 2, none⟩ = some (.string is) ∧ V'.cell? ⟨g0, o0 + i * 4 + 3, none⟩ = some (.slice (some ⟨gp, op, none⟩) mi ci) ∧ V'.cell? ⟨gp, op, none⟩ = some (.int .i64 pk) ∧ V'.cell? ⟨gp, op + 1, none⟩ = some (.int .i64 pn) ∧ V'.cell? ⟨gp, op + 2, none⟩ = some (.string ps) ∧ V'.cell? ⟨gp, op + 3, none⟩ = some (.slice Ap pl.length (capF pl.length cp)))) V') := Lib.hid fun V' h => HS0.out V' (hV.trans (h.mono hV.size))
            have hIn2 := EIn.below _ hIp hV (Nat.le_refl _)
            have hb0 := hbw.trans (hV.mono hbw.size)
            have hb0lt : w.heap.size + 3 ≤ V0.heap.size := by have := hV.size; omega
            replace lz := lz.below hV lz.lt
            clear y0 y1 y2 y3 x0 x1 x2 x3 d0 d1 d2 d3 p0 p1 p2 p3 lt ls hIp HS0 hbw
            have HIN : Hid (∀ X, Below V0.heap.size V0 X → Calls Try.prog 48 #[.agg #[.int .i64 pk, .int .i64 pn, .string ps, .slice Ap pl.length (capF pl.length cp)], .slice As ms cs] X fun e w' => ∃ A2 c2, e = .returned (ev (instE (.node pk pn ps pl) sl) A2 c2) ∧ EIn w' (fun g => X.heap.size ≤ g) (instE (.node pk pn ps pl) sl) A2 ∧ Below X.heap.size X w') := Lib.hid fun X hX => by
              rw [HMS.out]
              exact rinst_any (.node pk pn ps pl) sl Ap As cp cs X (EIn.below _ hIn2 hX (Nat.le_refl _)) hfp.1 hfp.2.1 hfp.2.2 (ELIn.keep (Y := Any) _ HSL.out fun g j _ h => ⟨(hb0.trans (hX.mono hb0.size)).cell (p := ⟨g, j, none⟩) h, trivial⟩) HFS.out (by have := HMS.out; omega)
            obtain ⟨U, hU⟩ : ∃ U, U = instE (.node pk pn ps pl) sl := ⟨_, rfl⟩
            rw [← hU] at HIN HE0
            clear hU
            have HE := Lib.hid HE0
            obtain ⟨uk, un, us, ul⟩ := U
            simp only [ev, Te.kind, Te.n, Te.name, Te.parts] at HIN
            clear HE0 hfp hIn2 HL1 HI HSL HFS hV hsz
            have hb_1 : Below V0.heap.size V0 V0 := Below.refl _ _
            refine wp_region_K (S := (fun V' : World => (V'.cell? ⟨w.heap.size, 0, none⟩ = some (.int .i64 tk) ∧ V'.cell? ⟨w.heap.size, 1, none⟩ = some (.int .i64 tn) ∧ V'.cell? ⟨w.heap.size, 2, none⟩ = some (.string ts) ∧ V'.cell? ⟨w.heap.size, 3, none⟩ = some (.slice (some ⟨g0, o0, none⟩) mt ct) ∧ V'.cell? ⟨w.heap.size + 2, 0, none⟩ = some (.int .i64 sk) ∧ V'.cell? ⟨w.heap.size + 2, 1, none⟩ = some (.int .i64 sn) ∧ V'.cell? ⟨w.heap.size + 2, 2, none⟩ = some (.string ss) ∧ V'.cell? ⟨w.heap.size + 2, 3, none⟩ = some (.slice As ms cs) ∧ V'.cell? ⟨g0, o0 + i * 4, none⟩ = some (.int .i64 ik) ∧ V'.cell? ⟨g0, o0 + i * 4 + 1, none⟩ = some (.int .i64 ia) ∧ V'.cell? ⟨g0, o0 + i * 4 + 2, none⟩ = some (.string is) ∧ V'.cell? ⟨g0, o0 + i * 4 + 3, none⟩ = some (.slice (some ⟨gp, op, none⟩) mi ci) ∧ V'.cell? ⟨gp, op, none⟩ = some (.int .i64 pk) ∧ V'.cell? ⟨gp, op + 1, none⟩ = some (.int .i64 pn) ∧ V'.cell? ⟨gp, op + 2, none⟩ = some (.string ps) ∧ V'.cell? ⟨gp, op + 3, none⟩ = some (.slice Ap pl.length (capF pl.length cp))))) 12 rfl (HSS.out _ hb_1.drew) (fun hSs => ?_)
            change wpAnyK _ _ _ _ _ _ 13 (Array.replicate 13 false) _ _
            refine wpAnyK_take (i := 0) (oi := ⟨some 43, _, _, _, _, _⟩) (v := .pointer (some ⟨w.heap.size, 3, none⟩)) rfl (by kernel_rfl) (by kernel_rfl) (by kernel_rfl) (by kernel_rfl) (fun _ _ _ h => h) (.inl ⟨by kernel_rfl, fun W hW => by first | (obtain ⟨z0, z1, z2, z3, z4, z5, z6, z7, z8, z9, z10, z11, z12, z13, z14, z15⟩ := hW; go_simp; done) | (obtain ⟨z0, z1, z2, z3, z4, z5, z6, z7, z8, z9, z10, z11, z12, z13, z14, z15⟩ := hW; go_simp; omega) | (obtain ⟨z0, z1, z2, z3, z4, z5, z6, z7, z8, z9, z10, z11, z12, z13, z14, z15⟩ := hW; go_simp; exact IntWalk.i64_in _ (by omega)) | (obtain ⟨z0, z1, z2, z3, z4, z5, z6, z7, z8, z9, z10, z11, z12, z13, z14, z15⟩ := hW; go_simp; simp [*]; done)⟩) hSs ?_
            try simp only [Act.put, List.setIfInBounds_toArray, List.set_cons_zero, List.set_cons_succ]
            refine wpAnyK_take (i := 1) (oi := ⟨some 44, _, _, _, _, _⟩) (v := .slice (some ⟨g0, o0, none⟩) mt ct) rfl (by kernel_rfl) (by kernel_rfl) (by kernel_rfl) (by kernel_rfl) (fun _ _ _ h => h) (.inl ⟨by kernel_rfl, fun W hW => by first | (obtain ⟨z0, z1, z2, z3, z4, z5, z6, z7, z8, z9, z10, z11, z12, z13, z14, z15⟩ := hW; go_simp; done) | (obtain ⟨z0, z1, z2, z3, z4, z5, z6, z7, z8, z9, z10, z11, z12, z13, z14, z15⟩ := hW; go_simp; omega) | (obtain ⟨z0, z1, z2, z3, z4, z5, z6, z7, z8, z9, z10, z11, z12, z13, z14, z15⟩ := hW; go_simp; exact IntWalk.i64_in _ (by omega)) | (obtain ⟨z0, z1, z2, z3, z4, z5, z6, z7, z8, z9, z10, z11, z12, z13, z14, z15⟩ := hW; go_simp; simp [*]; done)⟩) hSs ?_
            try simp only [Act.put, List.setIfInBounds_toArray, List.set_cons_zero, List.set_cons_succ]
            refine wpAnyK_take (i := 2) (oi := ⟨some 45, _, _, _, _, _⟩) (v := .int .i64 (i : Int)) rfl (by kernel_rfl) (by kernel_rfl) (by kernel_rfl) (by kernel_rfl) (fun _ _ _ h => h) (.inl ⟨by kernel_rfl, fun W hW => by kernel_rfl⟩) hSs ?_
            try simp only [Act.put, List.setIfInBounds_toArray, List.set_cons_zero, List.set_cons_succ]
            refine wpAnyK_take (i := 3) (oi := ⟨some 46, _, _, _, _, _⟩) (v := .pointer (some ⟨g0, o0 + i * 4, none⟩)) rfl (by kernel_rfl) (by kernel_rfl) (by kernel_rfl) (by kernel_rfl) (fun _ _ _ h => h) (.inl ⟨by kernel_rfl, fun W hW => by first | (obtain ⟨z0, z1, z2, z3, z4, z5, z6, z7, z8, z9, z10, z11, z12, z13, z14, z15⟩ := hW; go_simp; done) | (obtain ⟨z0, z1, z2, z3, z4, z5, z6, z7, z8, z9, z10, z11, z12, z13, z14, z15⟩ := hW; go_simp; omega) | (obtain ⟨z0, z1, z2, z3, z4, z5, z6, z7, z8, z9, z10, z11, z12, z13, z14, z15⟩ := hW; go_simp; exact IntWalk.i64_in _ (by omega)) | (obtain ⟨z0, z1, z2, z3, z4, z5, z6, z7, z8, z9, z10, z11, z12, z13, z14, z15⟩ := hW; go_simp; simp [*]; done)⟩) hSs ?_
            try simp only [Act.put, List.setIfInBounds_toArray, List.set_cons_zero, List.set_cons_succ]
            refine wpAnyK_take (i := 4) (oi := ⟨some 47, _, _, _, _, _⟩) (v := .pointer (some ⟨g0, o0 + i * 4 + 3, none⟩)) rfl (by kernel_rfl) (by kernel_rfl) (by kernel_rfl) (by kernel_rfl) (fun _ _ _ h => h) (.inl ⟨by kernel_rfl, fun W hW => by first | (obtain ⟨z0, z1, z2, z3, z4, z5, z6, z7, z8, z9, z10, z11, z12, z13, z14, z15⟩ := hW; go_simp; done) | (obtain ⟨z0, z1, z2, z3, z4, z5, z6, z7, z8, z9, z10, z11, z12, z13, z14, z15⟩ := hW; go_simp; omega) | (obtain ⟨z0, z1, z2, z3, z4, z5, z6, z7, z8, z9, z10, z11, z12, z13, z14, z15⟩ := hW; go_simp; exact IntWalk.i64_in _ (by omega)) | (obtain ⟨z0, z1, z2, z3, z4, z5, z6, z7, z8, z9, z10, z11, z12, z13, z14, z15⟩ := hW; go_simp; simp [*]; done)⟩) hSs ?_
            try simp only [Act.put, List.setIfInBounds_toArray, List.set_cons_zero, List.set_cons_succ]
            refine wpAnyK_take (i := 5) (oi := ⟨some 48, _, _, _, _, _⟩) (v := .slice (some ⟨gp, op, none⟩) mi ci) rfl (by kernel_rfl) (by kernel_rfl) (by kernel_rfl) (by kernel_rfl) (fun _ _ _ h => h) (.inl ⟨by kernel_rfl, fun W hW => by first | (obtain ⟨z0, z1, z2, z3, z4, z5, z6, z7, z8, z9, z10, z11, z12, z13, z14, z15⟩ := hW; go_simp; done) | (obtain ⟨z0, z1, z2, z3, z4, z5, z6, z7, z8, z9, z10, z11, z12, z13, z14, z15⟩ := hW; go_simp; omega) | (obtain ⟨z0, z1, z2, z3, z4, z5, z6, z7, z8, z9, z10, z11, z12, z13, z14, z15⟩ := hW; go_simp; exact IntWalk.i64_in _ (by omega)) | (obtain ⟨z0, z1, z2, z3, z4, z5, z6, z7, z8, z9, z10, z11, z12, z13, z14, z15⟩ := hW; go_simp; simp [*]; done)⟩) hSs ?_
            try simp only [Act.put, List.setIfInBounds_toArray, List.set_cons_zero, List.set_cons_succ]
            refine wpAnyK_take (i := 6) (oi := ⟨some 49, _, _, _, _, _⟩) (v := .pointer (some ⟨gp, op, none⟩)) rfl (by kernel_rfl) (by kernel_rfl) (by kernel_rfl) (by kernel_rfl) (fun _ _ _ h => h) (.inl ⟨by kernel_rfl, fun W hW => by first | (obtain ⟨z0, z1, z2, z3, z4, z5, z6, z7, z8, z9, z10, z11, z12, z13, z14, z15⟩ := hW; go_simp; done) | (obtain ⟨z0, z1, z2, z3, z4, z5, z6, z7, z8, z9, z10, z11, z12, z13, z14, z15⟩ := hW; go_simp; omega) | (obtain ⟨z0, z1, z2, z3, z4, z5, z6, z7, z8, z9, z10, z11, z12, z13, z14, z15⟩ := hW; go_simp; exact IntWalk.i64_in _ (by omega)) | (obtain ⟨z0, z1, z2, z3, z4, z5, z6, z7, z8, z9, z10, z11, z12, z13, z14, z15⟩ := hW; go_simp; simp [*]; done)⟩) hSs ?_
            try simp only [Act.put, List.setIfInBounds_toArray, List.set_cons_zero, List.set_cons_succ]
            refine wpAnyK_take (i := 7) (oi := ⟨some 50, _, _, _, _, _⟩) (v := .agg #[.int .i64 pk, .int .i64 pn, .string ps, .slice Ap pl.length (capF pl.length cp)]) rfl (by kernel_rfl) (by kernel_rfl) (by kernel_rfl) (by kernel_rfl) (fun _ _ _ h => h) (.inl ⟨by kernel_rfl, fun W hW => by first | (obtain ⟨z0, z1, z2, z3, z4, z5, z6, z7, z8, z9, z10, z11, z12, z13, z14, z15⟩ := hW; go_simp; done) | (obtain ⟨z0, z1, z2, z3, z4, z5, z6, z7, z8, z9, z10, z11, z12, z13, z14, z15⟩ := hW; go_simp; omega) | (obtain ⟨z0, z1, z2, z3, z4, z5, z6, z7, z8, z9, z10, z11, z12, z13, z14, z15⟩ := hW; go_simp; exact IntWalk.i64_in _ (by omega)) | (obtain ⟨z0, z1, z2, z3, z4, z5, z6, z7, z8, z9, z10, z11, z12, z13, z14, z15⟩ := hW; go_simp; simp [*]; done)⟩) hSs ?_
            try simp only [Act.put, List.setIfInBounds_toArray, List.set_cons_zero, List.set_cons_succ]
            refine wpAnyK_take (i := 8) (oi := ⟨some 51, _, _, _, _, _⟩) (v := .pointer (some ⟨w.heap.size + 2, 3, none⟩)) rfl (by kernel_rfl) (by kernel_rfl) (by kernel_rfl) (by kernel_rfl) (fun _ _ _ h => h) (.inl ⟨by kernel_rfl, fun W hW => by first | (obtain ⟨z0, z1, z2, z3, z4, z5, z6, z7, z8, z9, z10, z11, z12, z13, z14, z15⟩ := hW; go_simp; done) | (obtain ⟨z0, z1, z2, z3, z4, z5, z6, z7, z8, z9, z10, z11, z12, z13, z14, z15⟩ := hW; go_simp; omega) | (obtain ⟨z0, z1, z2, z3, z4, z5, z6, z7, z8, z9, z10, z11, z12, z13, z14, z15⟩ := hW; go_simp; exact IntWalk.i64_in _ (by omega)) | (obtain ⟨z0, z1, z2, z3, z4, z5, z6, z7, z8, z9, z10, z11, z12, z13, z14, z15⟩ := hW; go_simp; simp [*]; done)⟩) hSs ?_
            try simp only [Act.put, List.setIfInBounds_toArray, List.set_cons_zero, List.set_cons_succ]
            refine wpAnyK_take (i := 9) (oi := ⟨some 52, _, _, _, _, _⟩) (v := .slice As ms cs) rfl (by kernel_rfl) (by kernel_rfl) (by kernel_rfl) (by kernel_rfl) (fun _ _ _ h => h) (.inl ⟨by kernel_rfl, fun W hW => by first | (obtain ⟨z0, z1, z2, z3, z4, z5, z6, z7, z8, z9, z10, z11, z12, z13, z14, z15⟩ := hW; go_simp; done) | (obtain ⟨z0, z1, z2, z3, z4, z5, z6, z7, z8, z9, z10, z11, z12, z13, z14, z15⟩ := hW; go_simp; omega) | (obtain ⟨z0, z1, z2, z3, z4, z5, z6, z7, z8, z9, z10, z11, z12, z13, z14, z15⟩ := hW; go_simp; exact IntWalk.i64_in _ (by omega)) | (obtain ⟨z0, z1, z2, z3, z4, z5, z6, z7, z8, z9, z10, z11, z12, z13, z14, z15⟩ := hW; go_simp; simp [*]; done)⟩) hSs ?_
            try simp only [Act.put, List.setIfInBounds_toArray, List.set_cons_zero, List.set_cons_succ]
            refine wpAnyK_one  (i := 10) rfl rfl (by kernel_rfl) (fun K hK => ?_)
            go_simp
            refine (HIN.out _ (hb_1.drew) ).mono ?_
            rintro e u_2 ⟨A_2, c_2, rfl, hT_2, hq_2⟩
            have hb_2 := (hb_1.drew).trans (hq_2.mono (hb_1.drew).size)
            have lz_2 := (lz.drew).below hq_2 lz.lt
            refine hK.out _ _ (fun _ => HSS.out _ hb_2) (fun hS9 => ?_)
            have hS_2 := hS9 (by decide)
            clear hK K hS9
            try simp only [Act.put, List.setIfInBounds_toArray, List.set_cons_zero, List.set_cons_succ]
            refine wpAnyK_one  (i := 11) rfl rfl (by kernel_rfl) (fun K hK => ?_)
            obtain ⟨z0, z1, z2, z3, z4, z5, z6, z7, z8, z9, z10, z11, z12, z13, z14, z15⟩ := hS_2
            refine wp_store_as (F := fun W9 => (Below w.heap.size w W9 ∧ Lies W9 (w.heap.size + 1) 24 #[.int .i64 uk, .int .i64 un, .string us, .slice A_2 ul.length (capF ul.length c_2)] ∧ EIn W9 (fun b => w.heap.size ≤ b) (.node uk un us ul) A_2) ∧ (fun V' : World => (V'.cell? ⟨w.heap.size, 0, none⟩ = some (.int .i64 tk) ∧ V'.cell? ⟨w.heap.size, 1, none⟩ = some (.int .i64 tn) ∧ V'.cell? ⟨w.heap.size, 2, none⟩ = some (.string ts) ∧ V'.cell? ⟨w.heap.size, 3, none⟩ = some (.slice (some ⟨g0, o0, none⟩) mt ct) ∧ V'.cell? ⟨w.heap.size + 2, 0, none⟩ = some (.int .i64 sk) ∧ V'.cell? ⟨w.heap.size + 2, 1, none⟩ = some (.int .i64 sn) ∧ V'.cell? ⟨w.heap.size + 2, 2, none⟩ = some (.string ss) ∧ V'.cell? ⟨w.heap.size + 2, 3, none⟩ = some (.slice As ms cs) ∧ V'.cell? ⟨g0, o0 + i * 4, none⟩ = some (.int .i64 ik) ∧ V'.cell? ⟨g0, o0 + i * 4 + 1, none⟩ = some (.int .i64 ia) ∧ V'.cell? ⟨g0, o0 + i * 4 + 2, none⟩ = some (.string is) ∧ V'.cell? ⟨g0, o0 + i * 4 + 3, none⟩ = some (.slice (some ⟨gp, op, none⟩) mi ci) ∧ V'.cell? ⟨gp, op, none⟩ = some (.int .i64 pk) ∧ V'.cell? ⟨gp, op + 1, none⟩ = some (.int .i64 pn) ∧ V'.cell? ⟨gp, op + 2, none⟩ = some (.string ps) ∧ V'.cell? ⟨gp, op + 3, none⟩ = some (.slice Ap pl.length (capF pl.length cp)))) W9) _ _ _ rfl (w.heap.size + 1) 0 #[.int .i64 uk, .int .i64 un, .string us, .slice A_2 ul.length (capF ul.length c_2)] rfl rfl (lies_is lz_2 rfl) (by kernel_rfl) (by simp [Value.oneCell'])
              ⟨⟨below_cells (hb0.trans (hb_2.mono hb0.size)) (by omega) _ _, lies_set4 lz_2 _ _ _ _, EIn.wide _ (ein_offs _ hT_2 (fun h => by have h9 : V0.heap.size ≤ w.heap.size + 1 := h; have := hb0lt; omega) _ _) (fun b hb _ => by have h9 : V0.heap.size ≤ b := hb; have := hb0.size; omega)⟩, ⟨(cell_offs _ (w.heap.size + 1) _ (by omega) _ _ _).trans z0, (cell_offs _ (w.heap.size + 1) _ (by omega) _ _ _).trans z1, (cell_offs _ (w.heap.size + 1) _ (by omega) _ _ _).trans z2, (cell_offs _ (w.heap.size + 1) _ (by omega) _ _ _).trans z3, (cell_offs _ (w.heap.size + 1) _ (by omega) _ _ _).trans z4, (cell_offs _ (w.heap.size + 1) _ (by omega) _ _ _).trans z5, (cell_offs _ (w.heap.size + 1) _ (by omega) _ _ _).trans z6, (cell_offs _ (w.heap.size + 1) _ (by omega) _ _ _).trans z7, (cell_offs _ (w.heap.size + 1) _ (by omega) _ _ _).trans z8, (cell_offs _ (w.heap.size + 1) _ (by omega) _ _ _).trans z9, (cell_offs _ (w.heap.size + 1) _ (by omega) _ _ _).trans z10, (cell_offs _ (w.heap.size + 1) _ (by omega) _ _ _).trans z11, (cell_offs _ (w.heap.size + 1) _ (by omega) _ _ _).trans z12, (cell_offs _ (w.heap.size + 1) _ (by omega) _ _ _).trans z13, (cell_offs _ (w.heap.size + 1) _ (by omega) _ _ _).trans z14, (cell_offs _ (w.heap.size + 1) _ (by omega) _ _ _).trans z15⟩⟩ (fun W_3 hF_3 => ?_)
            refine hK.out _ _ (fun _ => hF_3.2) (fun hS9 => ?_)
            have hS_3 := hS9 (by decide)
            clear hK K hS9
            try simp only [Act.put, List.setIfInBounds_toArray]
            refine wpAnyK_one  (i := 12) rfl rfl (by kernel_rfl) (fun K hK => ?_)
            go_simp
            refine hK.out _ _ (fun h => absurd rfl h) (fun _ => ?_)
            clear hK K
            try simp only [Act.put, List.setIfInBounds_toArray, List.set_cons_zero, List.set_cons_succ]
            refine wpAnyK_done (by kernel_rfl) ?_ _
            obtain ⟨⟨f1, f2, f3⟩, _⟩ := hF_3
            go_wp2_with fail
            refine bodyPost_ret (res_term2 (p := 2) (q := 3) Try.results38 rfl f2) rfl ?_
            rw [HE.out]
            exact ⟨A_2, c_2, rfl, f3, f1⟩
          · have ec : (ia == (ms : Int)) = false := by simpa using hc
            have HR : Hid (pickE (.node sk sn ss sl) (tl.drop (i + 1)) = R) := Lib.hid ((HPD.out.trans (if_neg (fun h => hc h.2))).symm.trans HP.out)
            clear hn hc HP HPD
            go_wp2_with fail
            go_quiet (fail)
            go_wp2_with fail
            go_roundw
            case rel => exact ⟨i + 1, by omega, by omega, by go_num, HR, lt.drewN nq, lz.drewN nq, ls.drewN nq, (by first | exact hsz | (simp; exact hsz)), belowN hbw nq⟩
            case measure => simp [intOf]; omega
        · have en : (is.toList == ss.toList) = false := by rw [strE_q, decide_eq_false hn]
          have HR : Hid (pickE (.node sk sn ss sl) (tl.drop (i + 1)) = R) := Lib.hid ((HPD.out.trans (if_neg (fun h => hn h.1))).symm.trans HP.out)
          clear hn HP HPD
          go_wp2_with fail
          go_quiet (fail)
          go_wp2_with fail
          go_roundw
          case rel => exact ⟨i + 1, by omega, by omega, by go_num, HR, lt.drewN nq, lz.drewN nq, ls.drewN nq, (by first | exact hsz | (simp; exact hsz)), belowN hbw nq⟩
          case measure => simp [intOf]; omega
      · have HE : Hid (R = (failE, 4)) := Lib.hid (by rw [← HP.out, List.drop_of_length_le (by have := HMT.out; omega), pickE])
        have hb0 := hbw
        clear HP
        have HC := Lib.hid (rfail_any wr)
        obtain ⟨U, hU⟩ : ∃ U, U = failE := ⟨_, rfl⟩
        rw [← hU] at HC HE
        clear hU
        obtain ⟨uk, un, us, ul⟩ := U
        go_wp2_with fail
        refine HC.out.mono ?_
        rintro e w2 ⟨A2, c2, rfl, hT, hb2⟩
        simp only [ev, Te.kind, Te.n, Te.name, Te.parts]
        have lz2 := lz.below hb2 lz.lt
        have hbw := hb0.trans (hb2.mono hb0.size)
        obtain ⟨⟨x0, x1, x2, x3⟩, g0, g1, g2, g3⟩ := lz2.four
        have HT := Lib.hid hT
        have HW := Lib.hid hbw
        clear hT hb2 hbw HC
        go_wp2_with fail
        refine bodyPost_ret (res_term2 (p := 2) (q := 3) Try.results38 rfl (lz2.all _ _ _ _)) rfl ?_
        rw [HE.out]
        exact gives_allS HT.out (by omega) lz.lt HW.out _ _ _ _
  · have e4 : (sk == 4) = false := by simpa using hk
    have HE : Hid (R = (failE, 4)) := Lib.hid (by rw [HRR.out, chooseE]; exact if_neg hk)
    clear hk
    go_wp2_with fail
    go_loopw [5] (fun x wr => x = .int .i64 1 ∧ wr = W1) (fun _ _ => 0)
    case atStart => exact ⟨rfl, rfl⟩
    case round =>
      obtain ⟨rfl, hwr⟩ := hrel
      subst hwr
      obtain ⟨⟨y0, y1, y2, y3⟩, _⟩ := lt1.four
      obtain ⟨⟨x0, x1, x2, x3⟩, _⟩ := ls.four
      have hb0 := hb1
      have lz := lz1
      clear hb1
      by_cases hlt : 1 < mt
      · clear lt1 ls
        have HC := Lib.hid (rfail_any wr)
        obtain ⟨U, hU⟩ : ∃ U, U = failE := ⟨_, rfl⟩
        rw [← hU] at HC HE
        clear hU
        obtain ⟨uk, un, us, ul⟩ := U
        go_wp2_with fail
        refine HC.out.mono ?_
        rintro e w2 ⟨A2, c2, rfl, hT, hb2⟩
        simp only [ev, Te.kind, Te.n, Te.name, Te.parts]
        have lz2 := lz.below hb2 lz.lt
        have hbw := hb0.trans (hb2.mono hb0.size)
        obtain ⟨⟨x0, x1, x2, x3⟩, g0, g1, g2, g3⟩ := lz2.four
        have HT := Lib.hid hT
        have HW := Lib.hid hbw
        clear hT hb2 hbw HC
        go_wp2_with fail
        refine bodyPost_ret (res_term2 (p := 2) (q := 3) Try.results38 rfl (lz2.all _ _ _ _)) rfl ?_
        rw [HE.out]
        exact gives_allS HT.out (by omega) lz.lt HW.out _ _ _ _
      · clear lt1 ls
        have HC := Lib.hid (rfail_any wr)
        obtain ⟨U, hU⟩ : ∃ U, U = failE := ⟨_, rfl⟩
        rw [← hU] at HC HE
        clear hU
        obtain ⟨uk, un, us, ul⟩ := U
        go_wp2_with fail
        refine HC.out.mono ?_
        rintro e w2 ⟨A2, c2, rfl, hT, hb2⟩
        simp only [ev, Te.kind, Te.n, Te.name, Te.parts]
        have lz2 := lz.below hb2 lz.lt
        have hbw := hb0.trans (hb2.mono hb0.size)
        obtain ⟨⟨x0, x1, x2, x3⟩, g0, g1, g2, g3⟩ := lz2.four
        have HT := Lib.hid hT
        have HW := Lib.hid hbw
        clear hT hb2 hbw HC
        go_wp2_with fail
        refine bodyPost_ret (res_term2 (p := 2) (q := 3) Try.results38 rfl (lz2.all _ _ _ _)) rfl ?_
        rw [HE.out]
        exact gives_allS HT.out (by omega) lz.lt HW.out _ _ _ _
end Lx
end Go.Proofs.Ytgnafcnokenogaa
namespace Go.Proofs.Ytgnafcnokenogaa
open Go.RowKit
namespace Lx
set_option maxRecDepth 100000
def GivesN (Y : Nat → Prop) (t : Te) (x : Int) (w : World) (e : Ending) (w' : World) : Prop :=
  ∃ A c, e = .returned (.tuple #[ev t A c, .int .i64 x]) ∧ EIn w' (fun b => (Y b ∧ b < w.heap.size) ∨ w.heap.size ≤ b) t A ∧ Below w.heap.size w w'
theorem GivesS.n {Y : Nat → Prop} {t : Te} {x : Int} {w w' : World} {e : Ending} (h : GivesS t x w e w') : GivesN Y t x w e w' := by
  obtain ⟨A, c, he, h1, h2⟩ := h
  exact ⟨A, c, he, EIn.wide _ h1 (fun b hb _ => .inr hb), h2⟩
set_option maxHeartbeats 8000000 in
theorem within_any (Y : Nat → Prop) (t u : Te) (i : Nat) (x : Int) (A : Option Addr) (c0 : Nat) (w : World) (hI : EIn w Y t A) (hi : i < t.parts.length) (hml : t.parts.length ≤ 100000)
    (hs : ∀ A' c' X Z, EIn X Z (prt t.parts i) A' → Calls Try.prog 22 #[ev (prt t.parts i) A' c'] X (GivesN Z u x X)) :
    Calls Try.prog 37 #[ev t A c0, .int .i64 i] w (GivesN Y (if x = 0 then t else setE t i u) x w) := by
  obtain ⟨tk, tn, ts, tl⟩ := t
  obtain ⟨uk, un, us, ul⟩ := u
  simp only [Te.parts] at hi hml hs
  obtain ⟨R, hR⟩ : ∃ R, R = (if x = 0 then Te.node tk tn ts tl else setE (Te.node tk tn ts tl) i (Te.node uk un us ul)) := ⟨_, rfl⟩
  rw [← hR]
  have HRR := Lib.hid hR
  clear hR
  show Calls Try.prog 37 #[.agg #[.int .i64 tk, .int .i64 tn, .string ts, .slice A tl.length (capF tl.length c0)], .int .i64 i] w _
  obtain ⟨g0, o0, Ai, ci, ⟨hA, hY0⟩, d0, d1, d2, d3, hIi⟩ := EIn.part hI i hi
  simp only [Te.parts] at d0 d1 d2 d3 hIi
  subst hA
  have hpe : prt tl i = tl[i]'hi := by rw [prt, List.getD_eq_getElem?_getD, List.getElem?_eq_getElem hi]; rfl
  obtain ⟨P, hP⟩ : ∃ P, P = prt tl i := ⟨_, rfl⟩
  rw [← hP] at hpe hs
  rw [← hpe] at d0 d1 d2 d3 hIi
  clear hP hpe
  obtain ⟨pk, pn, ps, pl⟩ := P
  simp only [Te.kind, Te.n, Te.name] at d0 d1 d2 d3
  have hg0 : g0 < w.heap.size := cell_lt d0
  rw [EIn] at hI
  obtain ⟨⟨hi1, hi2, hi3⟩, hi4, hIL⟩ := hI
  obtain ⟨xs, hx, hc, ho⟩ := row_cells tl 0 hIL
  have hxl : xs.length = tl.length * 4 := hx.1
  obtain ⟨i0, hif, hz0, hz1, hz2⟩ : ∃ i, Try.prog.info? 24 = some i ∧ i.zero = some (.agg #[.int .i64 0, .int .i64 0, .string ⟨#[]⟩, .slice none 0 0]) ∧ i.size = 4 ∧ i.bytes = 56 := by
    have h := infoE
    cases hq : Try.prog.info? 24 with
    | none => rw [hq] at h; cases h
    | some i => rw [hq] at h; simp only [Option.map_some, Option.some.injEq, Prod.mk.injEq] at h; exact ⟨i, rfl, h.1, h.2.1, h.2.2⟩
  have HIF := Lib.hid hif
  have HX := Lib.hid hx
  have HC := Lib.hid hc
  have HO := Lib.hid ho
  have HIL := Lib.hid hIL
  have HI4 := Lib.hid (And.intro hi1 (And.intro hi2 hi3))
  clear hx hc ho hIL hi1 hi2 hi3 hi4 hif
  generalize hct : capF tl.length c0 = ct
  have HCT := Lib.hid hct
  clear hct
  obtain ⟨mt, hmt⟩ : ∃ m, m = tl.length := ⟨_, rfl⟩
  rw [← hmt] at hi hml hxl
  rw [← hmt]
  have HMT := Lib.hid hmt
  clear hmt
  have hb0 : Below w.heap.size w ((w.alloc (.cells #[.int .i64 tk, .int .i64 tn, .string ts, .slice (some ⟨g0, o0, none⟩) mt ct] 24)).alloc (.cells #[.int .i64 0, .int .i64 0, .string ⟨#[]⟩, .slice none 0 0] 24)) := below2_new _ _
  have lt : Lies ((w.alloc (.cells #[.int .i64 tk, .int .i64 tn, .string ts, .slice (some ⟨g0, o0, none⟩) mt ct] 24)).alloc (.cells #[.int .i64 0, .int .i64 0, .string ⟨#[]⟩, .slice none 0 0] 24)) w.heap.size 24 #[.int .i64 tk, .int .i64 tn, .string ts, .slice (some ⟨g0, o0, none⟩) mt ct] := (Lies.new w _ _).old _
  have lz : Lies ((w.alloc (.cells #[.int .i64 tk, .int .i64 tn, .string ts, .slice (some ⟨g0, o0, none⟩) mt ct] 24)).alloc (.cells #[.int .i64 0, .int .i64 0, .string ⟨#[]⟩, .slice none 0 0] 24)) (w.heap.size + 1) 24 #[.int .i64 0, .int .i64 0, .string ⟨#[]⟩, .slice none 0 0] := by simpa using Lies.new (w.alloc (.cells #[.int .i64 tk, .int .i64 tn, .string ts, .slice (some ⟨g0, o0, none⟩) mt ct] 24)) 24 #[.int .i64 0, .int .i64 0, .string ⟨#[]⟩, .slice none 0 0]
  have hz9 : ((w.alloc (.cells #[.int .i64 tk, .int .i64 tn, .string ts, .slice (some ⟨g0, o0, none⟩) mt ct] 24)).alloc (.cells #[.int .i64 0, .int .i64 0, .string ⟨#[]⟩, .slice none 0 0] 24)).heap.size = w.heap.size + 2 := by simp
  go_enter Try.func37, Try.ntmps37
  go_upto_region 1 with fail
  generalize ((w.alloc (.cells #[.int .i64 tk, .int .i64 tn, .string ts, .slice (some ⟨g0, o0, none⟩) mt ct] 24)).alloc (.cells #[.int .i64 0, .int .i64 0, .string ⟨#[]⟩, .slice none 0 0] 24)) = W0 at *
  replace d0 := (hb0.cell (p := ⟨g0, _, none⟩) hg0).trans d0
  replace d1 := (hb0.cell (p := ⟨g0, _, none⟩) hg0).trans d1
  replace d2 := (hb0.cell (p := ⟨g0, _, none⟩) hg0).trans d2
  replace d3 := (hb0.cell (p := ⟨g0, _, none⟩) hg0).trans d3
  have hs1 := hs Ai ci W0 (fun b => Y b ∧ b < w.heap.size) (EIn.below _ (EIn.wide _ hIi (fun b h hb => ⟨h, hb⟩)) hb0 (Nat.le_refl _))
  simp only [ev, Te.kind, Te.n, Te.name, Te.parts] at hs1
  have HS := Lib.hid hs1
  obtain ⟨⟨y0, y1, y2, y3⟩, _⟩ := lt.four
  clear hs hs1 hIi
  generalize capF pl.length ci = cp at *
  go_wp2_with fail
  refine HS.out.mono ?_
  rintro e w1 ⟨Au, cu, rfl, hU, hb1⟩
  simp only [ev, Te.kind, Te.n, Te.name, Te.parts]
  have hbw := hb0.trans (hb1.mono hb0.size)
  have lt1 := lt.below hb1 lt.lt
  have lz1 := lz.below hb1 lz.lt
  have hsz1 : w.heap.size + 2 ≤ w1.heap.size := by have := hb1.size; omega
  have HCU : Hid (EIn w1 (fun b => (Y b ∧ b < w.heap.size) ∨ w.heap.size + 2 ≤ b) (.node uk un us ul) Au) := Lib.hid (EIn.wide _ hU (fun b h _ => h.elim (fun k => .inl k.1) (fun k => .inr (by omega))))
  clear HS d0 d1 d2 d3 y0 y1 y2 y3 hb0 hb1 lt lz hU hz9
  obtain ⟨mu, hmu⟩ : ∃ m, m = ul.length := ⟨_, rfl⟩
  have HMU := Lib.hid hmu
  obtain ⟨cv, hcv⟩ : ∃ c, c = capF ul.length cu := ⟨_, rfl⟩
  have HCV := Lib.hid hcv
  rw [← hcv, ← hmu]
  clear hcv hmu
  go_upto_region 2 with fail
  have lu : Lies (w1.alloc (.cells #[.int .i64 uk, .int .i64 un, .string us, .slice Au mu cv] 24)) w1.heap.size 24 #[.int .i64 uk, .int .i64 un, .string us, .slice Au mu cv] := Lies.new _ _ _
  have lt2 := lt1.old (.cells #[.int .i64 uk, .int .i64 un, .string us, .slice Au mu cv] 24)
  have lz2 := lz1.old (.cells #[.int .i64 uk, .int .i64 un, .string us, .slice Au mu cv] 24)
  have hb2 := hbw.alloc hbw.size (.cells #[.int .i64 uk, .int .i64 un, .string us, .slice Au mu cv] 24)
  have HU2 : Hid (EIn (w1.alloc (.cells #[.int .i64 uk, .int .i64 un, .string us, .slice Au mu cv] 24)) (fun b => (Y b ∧ b < w.heap.size) ∨ w.heap.size + 2 ≤ b) (.node uk un us ul) Au) := Lib.hid (EIn.below _ HCU.out ((Below.refl _ w1).alloc (Nat.le_refl _) _) (Nat.le_refl _))
  have hsz2 : (w1.alloc (.cells #[.int .i64 uk, .int .i64 un, .string us, .slice Au mu cv] 24)).heap.size = w1.heap.size + 1 := by simp
  clear lt1 lz1 hbw HCU
  generalize (w1.alloc (.cells #[.int .i64 uk, .int .i64 un, .string us, .slice Au mu cv] 24)) = W1 at *
  obtain ⟨b6, hb6⟩ : ∃ b, b = w1.heap.size := ⟨_, rfl⟩
  rw [← hb6] at hsz1 hsz2 lu
  rw [← hb6]
  clear hb6
  obtain ⟨⟨y0, y1, y2, y3⟩, _⟩ := lt2.four
  obtain ⟨⟨z0, z1, z2, z3⟩, f0, f1, f2, f3⟩ := lz2.four
  by_cases hx : x = 0
  · have HR0 : Hid (R = .node tk tn ts tl) := Lib.hid (by rw [HRR.out, if_pos hx])
    clear HRR
    subst hx
    go_wp2_with fail
    refine bodyPost_ret (res_term2 (p := 4) (q := 5) Try.results37 rfl (lz2.all _ _ _ _)) rfl ?_
    have hB := Below.all hb2 (g := w.heap.size + 1) (by omega) (.int .i64 tk) (.int .i64 tn) (.string ts) (.slice (some ⟨g0, o0, none⟩) mt ct)
    rw [HR0.out]
    refine ⟨some ⟨g0, o0, none⟩, c0, ?_, EIn.below _ (EIn.wide _ (ein_mk HI4.out.1 HI4.out.2.1 HI4.out.2.2 (by have := HMT.out; omega) HIL.out) (fun b h hb => .inl ⟨h, hb⟩)) hB (Nat.le_refl _), hB⟩
    simp only [ev, Te.kind, Te.n, Te.name, Te.parts, HMT.out, ← HCT.out]
    rfl
  · have ex : (x == 0) = false := by simpa using hx
    have HRN : Hid (R = setE (.node tk tn ts tl) i (.node uk un us ul)) := Lib.hid (by rw [HRR.out, if_neg hx])
    clear hx HRR
    go_upto_region 5 with fail
    have l8 : Lies (W1.alloc (.cells #[.int .i64 tk, .int .i64 tn, .string ts, .slice none 0 0] 24)) (b6 + 1) 24 #[.int .i64 tk, .int .i64 tn, .string ts, .slice none 0 0] := lies_next _ _ _ _ hsz2.symm
    have lt3 := lt2.old (.cells #[.int .i64 tk, .int .i64 tn, .string ts, .slice none 0 0] 24)
    have lz3 := lz2.old (.cells #[.int .i64 tk, .int .i64 tn, .string ts, .slice none 0 0] 24)
    have lu3 := lu.old (.cells #[.int .i64 tk, .int .i64 tn, .string ts, .slice none 0 0] 24)
    have hb3 := hb2.alloc hb2.size (.cells #[.int .i64 tk, .int .i64 tn, .string ts, .slice none 0 0] 24)
    have HU3 : Hid (EIn (W1.alloc (.cells #[.int .i64 tk, .int .i64 tn, .string ts, .slice none 0 0] 24)) (fun b => (Y b ∧ b < w.heap.size) ∨ (w.heap.size + 2 ≤ b ∧ b < b6 + 1)) (.node uk un us ul) Au) := Lib.hid (EIn.below _ (EIn.wide _ HU2.out (fun b h hb => h.elim .inl (fun k => .inr ⟨k, by omega⟩))) ((Below.refl _ W1).alloc (Nat.le_refl _) _) (Nat.le_refl _))
    have hsz3 : (W1.alloc (.cells #[.int .i64 tk, .int .i64 tn, .string ts, .slice none 0 0] 24)).heap.size = b6 + 2 := by simp; omega
    clear lt2 lz2 lu hb2 HU2 y0 y1 y2 y3 z0 z1 z2 z3 f0 f1 f2 f3
    try simp only [hsz2]
    generalize W1.alloc (.cells #[.int .i64 tk, .int .i64 tn, .string ts, .slice none 0 0] 24) = W2 at *
    have hcb : ∀ j v, xs[j]? = some v → W2.cell? ((⟨g0, o0, none⟩ : Addr).add j) = some v := fun j v hv => by
      have h1 := HC.out j v hv
      have hadd : (⟨g0, o0, none⟩ : Addr).add j = ⟨g0, o0 + j, none⟩ := by unfold Addr.add; split <;> simp_all
      rw [hadd, hb3.cell (p := ⟨g0, o0 + j, none⟩) hg0]
      simpa using h1
    have ho := HO.out
    have hif := HIF.out
    obtain ⟨⟨y0, y1, y2, y3⟩, _⟩ := lt3.four
    obtain ⟨⟨v0, v1, v2, v3⟩, e0, e1, e2, e3⟩ := l8.four
    go_wp2_with (at_builtin; refine wpList_append_lies _ rfl (.tmp 29) (.tmp 31) 22 rfl W2.heap.size 24 i0 (.agg #[.int .i64 0, .int .i64 0, .string ⟨#[]⟩, .slice none 0 0]) 4 56 Try.underlying22 hif hz0 hz1 hz2 rfl (by decide) (.slice none 0 0) 0 [] rfl (World.ownsRow_nil _ _ _ _) ⟨g0, o0, none⟩ mt ct xs rfl hxl hcb ho ?c1 ?c2 ?c3 ?c4 W2.heap.size rfl ?_)
    case c1 => omega
    case c2 => unfold maxLen; omega
    case c3 => omega
    case c4 => exact Nat.le_refl _
    intro g cap w3 hown3 hg3 hgo hgl
    have hgg : g = b6 + 2 := by
      rcases hgo with h | h
      · cases h
      · omega
    subst hgg
    try simp only [Nat.zero_add, List.nil_append] at hown3
    have hb4 : Below W2.heap.size W2 w3 := (Below.refl _ _).grown hg3 (Nat.le_refl _) (fun k hk => by cases hk)
    obtain ⟨cur, hcap, LG, hcs, hcu⟩ := own_cur hown3
    have l8b := l8.below hb4 l8.lt
    have lz4 := lz3.below hb4 lz3.lt
    have lu4 := lu3.below hb4 lu3.lt
    have hbw4 := hb3.trans (hb4.mono hb3.size)
    have HX4 : Hid (RowTe w3 (fun b => (Y b ∧ b < w.heap.size) ∨ (w.heap.size + 2 ≤ b ∧ b < b6 + 1)) tl xs) := Lib.hid ((HX.out.wide (fun b h hb => .inl ⟨h, hb⟩)).below hbw4 (Nat.le_refl _))
    have HU4 : Hid (EIn w3 (fun b => (Y b ∧ b < w.heap.size) ∨ (w.heap.size + 2 ≤ b ∧ b < b6 + 1)) (.node uk un us ul) Au) := Lib.hid (EIn.below _ HU3.out hb4 (Nat.le_refl _))
    clear hown3 hg3 hgo hgl hb4 l8 lz3 lu3 lt3 hb3 HU3 y0 y1 y2 y3 v0 v1 v2 v3 e0 e1 e2 e3 hcb ho hif hsz3
    try simp only [Nat.zero_add]
    obtain ⟨⟨v0, v1, v2, v3⟩, e0, e1, e2, e3⟩ := l8b.four
    go_upto_region 6 with fail
    have l8c : Lies (w3.setCell ⟨b6 + 1, 3, none⟩ (.slice (some ⟨b6 + 2, 0, none⟩) mt cap)) (b6 + 1) 24 #[.int .i64 tk, .int .i64 tn, .string ts, (.slice (some ⟨b6 + 2, 0, none⟩) mt cap)] := by simpa using l8b.put 3 (.slice (some ⟨b6 + 2, 0, none⟩) mt cap)
    have lz5 : Lies (w3.setCell ⟨b6 + 1, 3, none⟩ (.slice (some ⟨b6 + 2, 0, none⟩) mt cap)) (w.heap.size + 1) 24 #[.int .i64 0, .int .i64 0, .string ⟨#[]⟩, .slice none 0 0] := lies_offs lz4 (by omega) [(.slice (some ⟨b6 + 2, 0, none⟩) mt cap)] 3
    have lu5 : Lies (w3.setCell ⟨b6 + 1, 3, none⟩ (.slice (some ⟨b6 + 2, 0, none⟩) mt cap)) b6 24 #[.int .i64 uk, .int .i64 un, .string us, .slice Au mu cv] := lies_offs lu4 (by omega) [(.slice (some ⟨b6 + 2, 0, none⟩) mt cap)] 3
    have LG5 : Lies (w3.setCell ⟨b6 + 1, 3, none⟩ (.slice (some ⟨b6 + 2, 0, none⟩) mt cap)) (b6 + 2) 24 cur := lies_offs LG (by omega) [(.slice (some ⟨b6 + 2, 0, none⟩) mt cap)] 3
    have hb5 : Below w.heap.size w (w3.setCell ⟨b6 + 1, 3, none⟩ (.slice (some ⟨b6 + 2, 0, none⟩) mt cap)) := hbw4.setCell (p := ⟨b6 + 1, 3, none⟩) (by show w.heap.size ≤ b6 + 1; omega) _
    have hn5 : ¬ (fun b => (Y b ∧ b < w.heap.size) ∨ (w.heap.size + 2 ≤ b ∧ b < b6 + 1)) (b6 + 1) := fun h => h.elim (fun k => by omega) (fun k => by omega)
    have HX5 : Hid (RowTe (w3.setCell ⟨b6 + 1, 3, none⟩ (.slice (some ⟨b6 + 2, 0, none⟩) mt cap)) (fun b => (Y b ∧ b < w.heap.size) ∨ (w.heap.size + 2 ≤ b ∧ b < b6 + 1)) tl xs) := Lib.hid (HX4.out.setCell ⟨b6 + 1, 3, none⟩ (.slice (some ⟨b6 + 2, 0, none⟩) mt cap) hn5)
    have HU5 : Hid (EIn (w3.setCell ⟨b6 + 1, 3, none⟩ (.slice (some ⟨b6 + 2, 0, none⟩) mt cap)) (fun b => (Y b ∧ b < w.heap.size) ∨ (w.heap.size + 2 ≤ b ∧ b < b6 + 1)) (.node uk un us ul) Au) := Lib.hid (EIn.setCell _ HU4.out ⟨b6 + 1, 3, none⟩ (.slice (some ⟨b6 + 2, 0, none⟩) mt cap) hn5)
    clear l8b lz4 lu4 LG hbw4 hn5 HX4 HU4 v0 v1 v2 v3 e0 e1 e2 e3
    generalize (w3.setCell ⟨b6 + 1, 3, none⟩ (.slice (some ⟨b6 + 2, 0, none⟩) mt cap)) = W4 at *
    obtain ⟨⟨v0, v1, v2, v3⟩, _⟩ := l8c.four
    obtain ⟨⟨u0, u1, u2, u3⟩, _⟩ := lu5.four
    have hEL : ELIn (W4.setCells (b6 + 2) (i * 4) [.int .i64 uk, .int .i64 un, .string us, .slice Au mu cv]) (fun b => (fun b => (Y b ∧ b < w.heap.size) ∨ (w.heap.size + 2 ≤ b ∧ b < b6 + 1)) b ∨ b = b6 + 2) (tl.set i (.node uk un us ul)) (some ⟨b6 + 2, 0, none⟩) 0 := by
      have hm := HMT.out
      rw [HMU.out, HCV.out]
      exact elin_put LG5 (by rw [← hm, hcu]; exact HX5.out) (by omega) i (by omega) (t := (.node uk un us ul)) (A := Au) (c := cu) HU5.out (fun h => h.elim (fun k => by omega) (fun k => by omega)) (.inr rfl) (fun b h => .inl h)
    go_wp2_with (refine wpList_plain rfl fun _ hK => wp_store_as (F := fun W => Hid (ELIn W (fun b => (fun b => (Y b ∧ b < w.heap.size) ∨ (w.heap.size + 2 ≤ b ∧ b < b6 + 1)) b ∨ b = b6 + 2) (tl.set i (.node uk un us ul)) (some ⟨b6 + 2, 0, none⟩) 0) ∧ Lies W (b6 + 1) 24 #[.int .i64 tk, .int .i64 tn, .string ts, (.slice (some ⟨b6 + 2, 0, none⟩) mt cap)] ∧ Lies W (w.heap.size + 1) 24 #[.int .i64 0, .int .i64 0, .string ⟨#[]⟩, .slice none 0 0] ∧ Below w.heap.size w W) _ _ _ rfl (b6 + 2) (i * 4) #[.int .i64 uk, .int .i64 un, .string us, .slice Au mu cv] rfl rfl (there_mid (n := 4) LG5 (by omega)) (by kernel_rfl) (by simp [Value.oneCell']) ⟨Lib.hid hEL, lies_offs l8c (by omega) _ _, lies_offs lz5 (by omega) _ _, below_cells hb5 (by omega) _ _⟩ ?_)
    intro W5 HEL l8d lz6 hb6
    refine hK _ _ ?_
    clear l8c lz5 lu5 LG5 hb5 HX5 HU5 v0 v1 v2 v3 u0 u1 u2 u3 hEL
    obtain ⟨⟨v0, v1, v2, v3⟩, _⟩ := l8d.four
    obtain ⟨⟨z0, z1, z2, z3⟩, f0, f1, f2, f3⟩ := lz6.four
    go_wp2_with fail
    refine bodyPost_ret (res_term2 (p := 4) (q := 5) Try.results37 rfl (lz6.all _ _ _ _)) rfl ?_
    rw [HRN.out]
    have hB := Below.all hb6 (g := w.heap.size + 1) (by omega) (.int .i64 tk) (.int .i64 tn) (.string ts) (.slice (some ⟨b6 + 2, 0, none⟩) mt cap)
    have hm := HMT.out
    refine ⟨some ⟨b6 + 2, 0, none⟩, cap, ?_, ?_, hB⟩
    · simp only [ev, setE, Te.kind, Te.n, Te.name, Te.parts, List.length_set, ← hm]
      rw [show capF mt cap = cap by unfold capF; omega]
      rfl
    · refine ein_mk HI4.out.1 HI4.out.2.1 HI4.out.2.2 (by simp only [List.length_set, Te.parts]; omega) (ELIn.keep _ HEL.out fun b j hX _ => ⟨?_, ?_⟩)
      · have hne : ∀ q, (⟨w.heap.size + 1, q, none⟩ : Addr) ≠ ⟨b, j, none⟩ := fun q e => by
          injection e with e
          rcases hX with (k | k) | k <;> omega
        rw [World.cell?_setCell_other _ _ _ _ (hne _), World.cell?_setCell_other _ _ _ _ (hne _), World.cell?_setCell_other _ _ _ _ (hne _), World.cell?_setCell_other _ _ _ _ (hne _)]
      · rcases hX with (k | k) | k
        · exact .inl k
        · exact .inr (by omega)
        · exact .inr (by omega)
end Lx
end Go.Proofs.Ytgnafcnokenogaa
namespace Go.Proofs.Ytgnafcnokenogaa
namespace Lx
set_option maxRecDepth 100000
theorem setE_own (t : Te) (i : Nat) : setE t i (prt t.parts i) = t := by
  obtain ⟨k, n, s, l⟩ := t
  simp only [setE, Te.kind, Te.n, Te.name, Te.parts]
  congr 1
  by_cases h : i < l.length
  · rw [prt, List.getD_eq_getElem?_getD, List.getElem?_eq_getElem h]
    simp
  · exact List.set_eq_of_length_le (by omega)
theorem pickE_no (s : Te) : ∀ l, (pickE s l).2 ≠ 0
  | [] => by simp [pickE]
  | a :: r => by
    rw [pickE]
    split
    · simp
    · exact pickE_no s r
theorem actE_zero (t : Te) (h : (actE t).2 = 0) : (actE t).1 = t := by
  unfold actE at h ⊢
  split at h
  · exfalso; revert h; unfold applyE; split <;> simp
  · rw [if_neg (by assumption)]
    split at h
    · exfalso; revert h; unfold chooseE; split
      · exact pickE_no _ _
      · simp
    · rw [if_neg (by assumption)]
      split at h
      · exfalso; revert h; unfold reckonE; split <;> simp
      · rw [if_neg (by assumption)]
theorem stepF_zero : ∀ (f : Nat) (t : Te), (stepF f t).2 = 0 → (stepF f t).1 = t
  | 0, t, _ => rfl
  | f + 1, t, h => by
    rw [stepF] at h ⊢
    split at h
    · rename_i i hw
      try simp only at h
      try simp only
      rw [stepF_zero f _ h, setE_own]
    · rename_i hw
      try simp only [hw] at h
      try simp only [hw]
      exact actE_zero t h
/-- What `within` tells, of a step told by fuel. -/
theorem within_step (f : Nat) (t : Te) (i : Nat) : (if (stepF f (prt t.parts i)).2 = 0 then t else setE t i (stepF f (prt t.parts i)).1) = setE t i (stepF f (prt t.parts i)).1 := by
  by_cases h : (stepF f (prt t.parts i)).2 = 0
  · rw [if_pos h, stepF_zero f _ h, setE_own]
  · rw [if_neg h]
end Lx
end Go.Proofs.Ytgnafcnokenogaa
namespace Go.Proofs.Ytgnafcnokenogaa
open Go.RowKit
namespace Lx
set_option maxRecDepth 100000
set_option maxHeartbeats 8000000 in
theorem step_other (Y : Nat → Prop) (t : Te) (A : Option Addr) (c0 : Nat) (w : World) (hI : EIn w Y t A) (h3 : t.kind ≠ 3) (h5 : t.kind ≠ 5) (h8 : t.kind ≠ 8) :
    Calls Try.prog 22 #[ev t A c0] w (GivesN Y t 0 w) := by
  obtain ⟨tk, tn, ts, tl⟩ := t
  simp only [Te.kind] at h3 h5 h8
  show Calls Try.prog 22 #[.agg #[.int .i64 tk, .int .i64 tn, .string ts, .slice A tl.length (capF tl.length c0)]] w _
  generalize hct : capF tl.length c0 = ct
  have HCT := Lib.hid hct
  clear hct
  obtain ⟨mt, hmt⟩ : ∃ m, m = tl.length := ⟨_, rfl⟩
  rw [← hmt]
  have HMT := Lib.hid hmt
  have HI := Lib.hid hI
  clear hmt hI
  have n3 : (tk != 3) = true := by simpa using h3
  have m3 : decide (tk ≠ 3) = true := by simpa using h3
  have e3 : (tk == 3) = false := by simpa using h3
  have n5 : (tk != 5) = true := by simpa using h5
  have m5 : decide (tk ≠ 5) = true := by simpa using h5
  have e5 : (tk == 5) = false := by simpa using h5
  have n8 : (tk != 8) = true := by simpa using h8
  have m8 : decide (tk ≠ 8) = true := by simpa using h8
  have e8 : (tk == 8) = false := by simpa using h8
  clear h3 h5 h8
  have hb0 : Below w.heap.size w ((w.alloc (.cells #[.int .i64 tk, .int .i64 tn, .string ts, .slice A mt ct] 24)).alloc (.cells #[.int .i64 0, .int .i64 0, .string ⟨#[]⟩, .slice none 0 0] 24)) := below2_new _ _
  have lt : Lies ((w.alloc (.cells #[.int .i64 tk, .int .i64 tn, .string ts, .slice A mt ct] 24)).alloc (.cells #[.int .i64 0, .int .i64 0, .string ⟨#[]⟩, .slice none 0 0] 24)) w.heap.size 24 #[.int .i64 tk, .int .i64 tn, .string ts, .slice A mt ct] := (Lies.new w _ _).old _
  have lz : Lies ((w.alloc (.cells #[.int .i64 tk, .int .i64 tn, .string ts, .slice A mt ct] 24)).alloc (.cells #[.int .i64 0, .int .i64 0, .string ⟨#[]⟩, .slice none 0 0] 24)) (w.heap.size + 1) 24 #[.int .i64 0, .int .i64 0, .string ⟨#[]⟩, .slice none 0 0] := by simpa using Lies.new (w.alloc (.cells #[.int .i64 tk, .int .i64 tn, .string ts, .slice A mt ct] 24)) 24 #[.int .i64 0, .int .i64 0, .string ⟨#[]⟩, .slice none 0 0]
  go_enter Try.func22, Try.ntmps22
  go_upto_region 1 with fail
  generalize ((w.alloc (.cells #[.int .i64 tk, .int .i64 tn, .string ts, .slice A mt ct] 24)).alloc (.cells #[.int .i64 0, .int .i64 0, .string ⟨#[]⟩, .slice none 0 0] 24)) = W0 at *
  obtain ⟨⟨y0, y1, y2, y3⟩, _⟩ := lt.four
  obtain ⟨⟨z0, z1, z2, z3⟩, f0, f1, f2, f3⟩ := lz.four
  go_wp2_with fail
  refine bodyPost_ret (res_term2 (p := 2) (q := 3) Try.results22 rfl (lz.all _ _ _ _)) rfl ?_
  have hB := Below.all hb0 (g := w.heap.size + 1) (by omega) (.int .i64 tk) (.int .i64 tn) (.string ts) (.slice A mt ct)
  refine ⟨A, c0, ?_, EIn.below _ (EIn.wide _ HI.out (fun b h hb => .inl ⟨h, hb⟩)) hB (Nat.le_refl _), hB⟩
  simp only [ev, Te.kind, Te.n, Te.name, Te.parts, HMT.out, ← HCT.out]
  rfl
end Lx
end Go.Proofs.Ytgnafcnokenogaa
namespace Go.Proofs.Ytgnafcnokenogaa
open Go.RowKit
namespace Lx
set_option maxRecDepth 100000
set_option maxHeartbeats 8000000 in
theorem step_five (tn : Int) (ts : ByteArray) (tl : List Te) (A : Option Addr) (c0 : Nat) (w : World) (hI : EIn w Any (.node 5 tn ts tl) A) (hl0 : 0 < tl.length) (hml : tl.length ≤ 100000) (hv : valK (prt tl 0).kind = true) (hsl : (prt tl 0).parts.length ≤ 100000) (hfs : ∀ u ∈ (prt tl 0).parts, FineR u) (hl1 : ∀ i, 1 ≤ i → i < tl.length → 1 ≤ (prt tl i).parts.length ∧ FineR (prt (prt tl i).parts 0)) :
    Calls Try.prog 22 #[ev (.node 5 tn ts tl) A c0] w (GivesS (chooseE (prt tl 0) (tl.drop 1)).1 (chooseE (prt tl 0) (tl.drop 1)).2 w) := by
  have HP : Hid (∀ X, Below w.heap.size w X → Calls Try.prog 38 #[.agg #[.int .i64 5, .int .i64 tn, .string ts, .slice A tl.length (capF tl.length c0)]] X (GivesS (chooseE (prt tl 0) (tl.drop 1)).1 (chooseE (prt tl 0) (tl.drop 1)).2 X)) := Lib.hid fun X hX => pick_any (.node 5 tn ts tl) A c0 X (EIn.below _ hI hX (Nat.le_refl _)) hl0 hml hsl hfs hl1
  obtain ⟨U, hU⟩ : ∃ U, U = (chooseE (prt tl 0) (tl.drop 1)).1 := ⟨_, rfl⟩
  obtain ⟨x, hxx⟩ : ∃ x, x = (chooseE (prt tl 0) (tl.drop 1)).2 := ⟨_, rfl⟩
  rw [← hU, ← hxx] at HP
  rw [← hU, ← hxx]
  clear hU hxx hfs hl1 hsl
  obtain ⟨uk, un, us, ul⟩ := U
  show Calls Try.prog 22 #[.agg #[.int .i64 5, .int .i64 tn, .string ts, .slice A tl.length (capF tl.length c0)]] w _
  obtain ⟨g0, o0, As, cs0, ⟨hA, _⟩, s0, s1, s2, s3, hIs⟩ := EIn.part hI 0 hl0
  simp only [Te.parts] at s0 s1 s2 s3 hIs
  subst hA
  simp only [Nat.zero_mul, Nat.add_zero] at s0 s1 s2 s3
  have hpe : prt tl 0 = tl[0]'hl0 := by rw [prt, List.getD_eq_getElem?_getD, List.getElem?_eq_getElem hl0]; rfl
  rw [hpe] at hv
  obtain ⟨Q, hQ⟩ : ∃ Q, Q = tl[0]'hl0 := ⟨_, rfl⟩
  rw [← hQ] at s0 s1 s2 s3 hv
  clear hpe hQ hIs hI
  obtain ⟨sk, sn, ss, sl⟩ := Q
  simp only [Te.kind, Te.n, Te.name] at s0 s1 s2 s3 hv
  have hg0 : g0 < w.heap.size := cell_lt s0
  generalize capF sl.length cs0 = cs at *
  generalize sl.length = ms at *
  generalize capF tl.length c0 = ct at *
  generalize tl.length = mt at *
  have hb0 : Below w.heap.size w ((w.alloc (.cells #[.int .i64 5, .int .i64 tn, .string ts, .slice (some ⟨g0, o0, none⟩) mt ct] 24)).alloc (.cells #[.int .i64 0, .int .i64 0, .string ⟨#[]⟩, .slice none 0 0] 24)) := below2_new _ _
  have lt : Lies ((w.alloc (.cells #[.int .i64 5, .int .i64 tn, .string ts, .slice (some ⟨g0, o0, none⟩) mt ct] 24)).alloc (.cells #[.int .i64 0, .int .i64 0, .string ⟨#[]⟩, .slice none 0 0] 24)) w.heap.size 24 #[.int .i64 5, .int .i64 tn, .string ts, .slice (some ⟨g0, o0, none⟩) mt ct] := (Lies.new w _ _).old _
  have lz : Lies ((w.alloc (.cells #[.int .i64 5, .int .i64 tn, .string ts, .slice (some ⟨g0, o0, none⟩) mt ct] 24)).alloc (.cells #[.int .i64 0, .int .i64 0, .string ⟨#[]⟩, .slice none 0 0] 24)) (w.heap.size + 1) 24 #[.int .i64 0, .int .i64 0, .string ⟨#[]⟩, .slice none 0 0] := by simpa using Lies.new (w.alloc (.cells #[.int .i64 5, .int .i64 tn, .string ts, .slice (some ⟨g0, o0, none⟩) mt ct] 24)) 24 #[.int .i64 0, .int .i64 0, .string ⟨#[]⟩, .slice none 0 0]
  have hz0 : ((w.alloc (.cells #[.int .i64 5, .int .i64 tn, .string ts, .slice (some ⟨g0, o0, none⟩) mt ct] 24)).alloc (.cells #[.int .i64 0, .int .i64 0, .string ⟨#[]⟩, .slice none 0 0] 24)).heap.size = w.heap.size + 2 := by simp
  have HV := Lib.hid hv
  clear hv
  go_enter Try.func22, Try.ntmps22
  go_upto_region 1 with fail
  generalize ((w.alloc (.cells #[.int .i64 5, .int .i64 tn, .string ts, .slice (some ⟨g0, o0, none⟩) mt ct] 24)).alloc (.cells #[.int .i64 0, .int .i64 0, .string ⟨#[]⟩, .slice none 0 0] 24)) = W0 at *
  replace s0 := (hb0.cell (p := ⟨g0, _, none⟩) hg0).trans s0
  replace s1 := (hb0.cell (p := ⟨g0, _, none⟩) hg0).trans s1
  replace s2 := (hb0.cell (p := ⟨g0, _, none⟩) hg0).trans s2
  replace s3 := (hb0.cell (p := ⟨g0, _, none⟩) hg0).trans s3
  obtain ⟨⟨y0, y1, y2, y3⟩, _⟩ := lt.four
  have ls : Lies (W0.alloc (.cells #[.int .i64 sk, .int .i64 sn, .string ss, .slice As ms cs] 24)) (w.heap.size + 2) 24 #[.int .i64 sk, .int .i64 sn, .string ss, .slice As ms cs] := lies_next _ _ _ _ hz0.symm
  have lt1 := lt.old (.cells #[.int .i64 sk, .int .i64 sn, .string ss, .slice As ms cs] 24)
  have lz1 := lz.old (.cells #[.int .i64 sk, .int .i64 sn, .string ss, .slice As ms cs] 24)
  have hb1 := hb0.alloc hb0.size (.cells #[.int .i64 sk, .int .i64 sn, .string ss, .slice As ms cs] 24)
  have hsz1 : w.heap.size + 3 ≤ (W0.alloc (.cells #[.int .i64 sk, .int .i64 sn, .string ss, .slice As ms cs] 24)).heap.size := by simp; omega
  go_upto_region 4 with fail
  try simp only [hz0]
  clear s0 s1 s2 s3 y0 y1 y2 y3 hb0 lt lz hz0
  generalize (W0.alloc (.cells #[.int .i64 sk, .int .i64 sn, .string ss, .slice As ms cs] 24)) = W1 at *
  obtain ⟨⟨x0, x1, x2, x3⟩, _⟩ := ls.four
  have HVC := Lib.hid (fun X => rvalue_any sk sn ss As ms cs X)
  go_wp2_with fail
  refine (HVC.out _).mono ?_
  rintro e w2 ⟨rfl, hb2⟩
  rw [HV.out]
  have lt2 := lt1.below hb2 lt1.lt
  have lz2 := lz1.below hb2 lz1.lt
  have hbw := hb1.trans (hb2.mono hb1.size)
  have hs2 : w.heap.size + 3 ≤ w2.heap.size := by have := hb2.size; omega
  clear x0 x1 x2 x3 ls lt1 lz1 hb1 hb2 hsz1 HVC
  obtain ⟨⟨y0, y1, y2, y3⟩, _⟩ := lt2.four
  go_wp2_with fail
  refine (HP.out _ hbw).mono ?_
  rintro e w3 ⟨A2, c2, rfl, hT, hb3⟩
  simp only [ev, Te.kind, Te.n, Te.name, Te.parts]
  have lz3 := lz2.below hb3 lz2.lt
  have hbw3 := hbw.trans (hb3.mono hbw.size)
  obtain ⟨⟨x0, x1, x2, x3⟩, f0, f1, f2, f3⟩ := lz3.four
  have HT := Lib.hid hT
  have HW := Lib.hid hbw3
  clear hT hb3 hbw3 HP
  go_wp2_with fail
  refine bodyPost_ret (res_term2 (p := 2) (q := 3) Try.results22 rfl (lz3.all _ _ _ _)) rfl ?_
  exact gives_allS HT.out (by omega) lz2.lt HW.out _ _ _ _
end Lx
end Go.Proofs.Ytgnafcnokenogaa
