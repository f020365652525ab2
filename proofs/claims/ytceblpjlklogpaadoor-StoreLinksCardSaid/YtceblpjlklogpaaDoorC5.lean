/-
  Texts that lie one behind the other: NlS NlT NlU NlV.
-/
import Derived.Test.YtceblpjlklogpaaDoorC4
namespace Go.Proofs.YtceblpjlklogpaaDoor
open Go Go.RowKit
namespace Lx
set_option maxRecDepth 100000
/-- What copied.Net answers. -/
def GivesCut (l : List Nd) (m : Nat) (cap : Int) (w : World) (e : Ending) (w' : World) : Prop :=
  ∃ G gp c' cs ps, e = .returned (.agg #[.slice (some ⟨G, 0, none⟩) m c', .int .i64 cap]) ∧ Cut w' w.heap.size G gp m l m cs ps ∧ cs.size = c' * 6 ∧ m ≤ c' ∧ c' ≤ maxLen ∧ Below w.heap.size w w'
def GivesC (l : List Nd) (m : Nat) (cap : Int) (w : World) (e : Ending) (w' : World) : Prop :=
  ∃ G c' cs, e = .returned (.agg #[.slice (some ⟨G, 0, none⟩) m c', .int .i64 cap]) ∧ Half w' (fun g => w.heap.size ≤ g ∧ g ≠ G) G m l m cs ∧ cs.size = c' * 6 ∧ m ≤ c' ∧ c' ≤ maxLen ∧ w.heap.size ≤ G ∧ Below w.heap.size w w'
theorem GivesCut.c {l : List Nd} {m : Nat} {cap : Int} {w w' : World} {e : Ending} (h : GivesCut l m cap w e w') : GivesC l m cap w e w' := by
  obtain ⟨G, gp, c', cs, ps, he, hC, h1, h2, h3, h4⟩ := h
  exact ⟨G, c', cs, he, hC.half, h1, h2, h3, hC.own.1, h4⟩
theorem res_net1 {fn : Func} {p : Tmp} (h : fn.results = #[.cell p 24]) {tmps : Array Value} {g : Nat} {a b : Value} {w : World} (hp : tmps.getD p undef = .pointer (some ⟨g, 0, none⟩)) (L : Lies w g 24 #[a, b]) :
    (results fn tmps).run Tryd.prog w = .ok (.agg #[a, b]) w := by
  have hl := run_loadVar_row (P := Tryd.prog) w g 24 24 #[a, b] (0, 0) _ L Tryd.underlying24 rfl (by kernel_rfl)
  have hp' : tmps[p]?.getD undef = .pointer (some ⟨g, 0, none⟩) := by simpa using hp
  simp only [results, h]
  simp [hp', asAddr, hl]
/-- A net without nodes. -/
theorem net_none (A : Option Addr) (c : Nat) (cap : Int) (w : World) :
    Calls Tryd.prog 24 #[.agg #[.slice A 0 c, .int .i64 cap]] w fun e w' => ∃ A' c', e = .returned (.agg #[.slice A' 0 c', .int .i64 cap]) ∧ Below w.heap.size w w' := by
  obtain ⟨W, hW⟩ : ∃ W, W = ((w.alloc (.cells #[.slice A 0 c, .int .i64 cap] 24)).alloc (.cells #[.slice none 0 0, .int .i64 0] 24)) := ⟨_, rfl⟩
  have hbW : Below w.heap.size w W := by rw [hW]; exact ((Below.refl _ w).alloc (Nat.le_refl _) _).alloc (by simp) _
  have hWs : W.heap.size = w.heap.size + 2 := by rw [hW]; simp
  have L1 : Lies W w.heap.size 24 #[.slice A 0 c, .int .i64 cap] := by rw [hW]; exact (Lies.new _ _ _).old _
  have R1 : Lies W (w.heap.size + 1) 24 #[.slice none 0 0, .int .i64 0] := by rw [hW]; simpa using Lies.new (w.alloc (.cells #[.slice A 0 c, .int .i64 cap] 24)) 24 #[.slice none 0 0, .int .i64 0]
  have HC : Hid (Calls Tryd.prog 33 #[.slice A 0 c] W fun e w' => ∃ A' c', e = .returned (.slice A' 0 c') ∧ Below W.heap.size W w') := Lib.hid (by
    cases A with
    | none =>
      have heq : ∀ W, (binOp .eql 22 (.slice none 0 c) (.slice none 0 0)).run Tryd.prog W = .ok (.bool true) W := fun W => by kernel_rfl
      clear L1 R1 hW
      go_enter Tryd.func33, Tryd.ntmps33
      go_wp2_with fail
      go_ret
      exact ⟨_, _, rfl, Below.refl _ _⟩
    | some ad =>
      refine (cloneN_any [] ad 0 c [] W rfl (by omega) (fun j u hu => by simp at hu) (fun u hu => by simp at hu)).mono ?_
      rintro e w' ⟨g', c', rfl, _, hb⟩
      exact ⟨_, _, rfl, hb⟩)
  obtain ⟨x0, x1⟩ := two_cells L1
  have HL1 := Lib.hid L1
  have HR1 := Lib.hid R1
  have HBW := Lib.hid hbW
  clear L1 R1 hbW
  go_enter Tryd.func24, Tryd.ntmps24
  go_upto_region 1 with fail
  rw [← hW]
  clear hW
  go_wp2_with fail
  refine HC.out.mono ?_
  rintro e w2 ⟨A', c', rfl, hb2⟩
  clear HC x0 x1
  have L2 := HL1.out.below hb2 HL1.out.lt
  have R2 := HR1.out.below hb2 HR1.out.lt
  have f0 := L2.frozen 0
  obtain ⟨y0, y1⟩ := two_cells L2
  have HL2 := Lib.hid L2
  have HR2 := Lib.hid R2
  have HB2 := Lib.hid (HBW.out.trans (hb2.mono HBW.out.size))
  clear L2 R2 HL1 HR1 HBW hb2
  go_upto_region 2 with fail
  obtain ⟨V3, hV3⟩ : ∃ V, V = w2.setCell ⟨w.heap.size, 0, none⟩ (.slice A' 0 c') := ⟨_, rfl⟩
  have L3 : Lies V3 w.heap.size 24 #[.slice A' 0 c', .int .i64 cap] := by
    rw [hV3]
    have := HL2.out.put 0 (.slice A' 0 c')
    simpa using this
  have R3 : Lies V3 (w.heap.size + 1) 24 #[.slice none 0 0, .int .i64 0] := by rw [hV3]; exact HR2.out.far (p := ⟨w.heap.size, 0, none⟩) (by simp) _
  have hb3 : Below w.heap.size w V3 := by rw [hV3]; exact HB2.out.setCell (p := ⟨w.heap.size, 0, none⟩) (Nat.le_refl _) _
  rw [← hV3]
  clear hV3 HL2 HR2 HB2 y0 y1 f0
  have HP := Lib.hid (allPorts_any [] A' 0 c' V3 rfl (by omega) (fun i hi => by simp at hi) NdsIn.nil)
  obtain ⟨y0, y1⟩ := two_cells L3
  have HL3 := Lib.hid L3
  have HR3 := Lib.hid R3
  have HB3 := Lib.hid hb3
  clear L3 R3 hb3
  go_wp2_with fail
  refine HP.out.mono ?_
  rintro e w4 ⟨gp, np, cp, ps, rfl, _, _, _, _, _, hb4⟩
  have L4 := HL3.out.below hb4 HL3.out.lt
  have R4 := HR3.out.below hb4 HR3.out.lt
  have hb5 := HB3.out.trans (hb4.mono HB3.out.size)
  clear HP y0 y1 HL3 HR3 HB3 hb4
  obtain ⟨y0, y1⟩ := two_cells L4
  have HL4 := Lib.hid L4
  have HR4 := Lib.hid R4
  have HB5 := Lib.hid hb5
  clear L4 R4 hb5
  go_wp2_with fail
  go_loopw [17] (fun y wr => y = .int .i64 0 ∧ wr = w4) (fun _ _ => 0)
  case atStart => exact ⟨rfl, rfl⟩
  case round =>
    obtain ⟨rfl, rfl⟩ := hrel
    have g0 := HR4.out.frozen 0
    have g1 := HR4.out.frozen 1
    obtain ⟨r0, r1⟩ := two_cells HR4.out
    go_wp2_with fail
    have hR9 := lies_put2 HR4.out (.slice A' 0 c') (.int .i64 cap)
    refine bodyPost_ret (res_net1 (p := 2) Tryd.results24 rfl hR9) rfl ⟨A', c', rfl, (HB5.out.setCell (p := ⟨w.heap.size + 1, 0, none⟩) (by show w.heap.size ≤ w.heap.size + 1; omega) _).setCell (p := ⟨w.heap.size + 1, 1, none⟩) (by show w.heap.size ≤ w.heap.size + 1; omega) _⟩
set_option maxHeartbeats 16000000 in
theorem net_any (l : List Nd) (A : Option Addr) (m c : Nat) (cap : Int) (w : World) (hm : m = l.length) (hm0 : 0 < m) (hm2 : m ≤ 100000) (hk : ∀ i, i < l.length → (ndAt l i).to.length ≤ 100000 ∧ (ndAt l i).alts.length ≤ 100000) (hN : NdsIn w AnyB l A) :
    Calls Tryd.prog 24 #[.agg #[.slice A m c, .int .i64 cap]] w (GivesCut l m cap w) := by
  obtain ⟨W, hW⟩ : ∃ W, W = ((w.alloc (.cells #[.slice A m c, .int .i64 cap] 24)).alloc (.cells #[.slice none 0 0, .int .i64 0] 24)) := ⟨_, rfl⟩
  have hbW : Below w.heap.size w W := by rw [hW]; exact ((Below.refl _ w).alloc (Nat.le_refl _) _).alloc (by simp) _
  have hWs : W.heap.size = w.heap.size + 2 := by rw [hW]; simp
  have L1 : Lies W w.heap.size 24 #[.slice A m c, .int .i64 cap] := by rw [hW]; exact (Lies.new _ _ _).old _
  have R1 : Lies W (w.heap.size + 1) 24 #[.slice none 0 0, .int .i64 0] := by rw [hW]; simpa using Lies.new (w.alloc (.cells #[.slice A m c, .int .i64 cap] 24)) 24 #[.slice none 0 0, .int .i64 0]
  obtain ⟨g, o, _, _, _, _, _, _, rfl, _, _⟩ := NdsIn.get hN 0 (by omega)
  have hNW : NdsIn W (fun g => g < w.heap.size) l (some ⟨g, o, none⟩) := hN.keep (fun b j _ hlt => ⟨hbW.cell (p := ⟨b, j, none⟩) hlt, hlt⟩)
  obtain ⟨xs, hrow, hxc, hx1⟩ := NdsIn.row hNW
  have hxl : xs.length = m * 6 := by rw [hrow.1, hm]
  have HC := Lib.hid (cloneN_any l ⟨g, o, none⟩ m c xs W hxl (by omega) (fun j u hu => by rw [nadd]; exact hxc j u hu) hx1)
  have HROW := Lib.hid hrow
  have HM := Lib.hid hm
  have HK := Lib.hid hk
  obtain ⟨x0, x1⟩ := two_cells L1
  have HL1 := Lib.hid L1
  have HR1 := Lib.hid R1
  have HBW := Lib.hid hbW
  clear hN hrow hxc hx1 hm hk hNW L1 R1 hbW
  go_enter Tryd.func24, Tryd.ntmps24
  go_upto_region 1 with fail
  rw [← hW]
  clear hW
  go_wp2_with fail
  refine HC.out.mono ?_
  rintro e w2 ⟨G, c', rfl, ho, hb2⟩
  clear HC x0 x1
  obtain ⟨cur, hmc, hL, hcs, htk, hGb, hcm⟩ := own_curC ho
  have hGlt := hL.lt
  have L2 := HL1.out.below hb2 HL1.out.lt
  have R2 := HR1.out.below hb2 HR1.out.lt
  have f0 := L2.frozen 0
  obtain ⟨y0, y1⟩ := two_cells L2
  have HL2 := Lib.hid L2
  have HR2 := Lib.hid R2
  have HB2 := Lib.hid (HBW.out.trans (hb2.mono HBW.out.size))
  have HOLD : Hid (∀ j, j < m → ∃ B b C cc, (∀ q, q < 6 → cur[j * 6 + q]? = (cellsNd (ndAt l j) B b C cc)[q]?) ∧ NdIn w2 (fun g => g < w.heap.size) (ndAt l j) B C) := Lib.hid fun j hjm => by
    have hjl : j < l.length := by have := HM.out; omega
    obtain ⟨B, b, C, cc, h5, h6⟩ := HROW.out.2 j hjl
    rw [← ndAt_lt hjl] at h5 h6
    refine ⟨B, b, C, cc, fun q hq => ?_, h6.below hb2 (Nat.le_refl _)⟩
    rw [← h5 q hq, ← htk, List.getElem?_take_of_lt (by omega)]
    simp
  have HN2 : Hid (NdsIn w2 (fun g => g ≠ w.heap.size) l (some ⟨G, 0, none⟩)) := Lib.hid ((HROW.out.keep (keep_below hb2 (Nat.le_refl _))).owned ho (fun q hq => by omega) (fun q hq _ => by omega))
  have HLG := Lib.hid hL
  clear ho htk hL HROW L2 R2 HL1 HR1 HBW hb2
  go_upto_region 2 with fail
  obtain ⟨V3, hV3⟩ : ∃ V, V = w2.setCell ⟨w.heap.size, 0, none⟩ (.slice (some ⟨G, 0, none⟩) m c') := ⟨_, rfl⟩
  have L3 : Lies V3 w.heap.size 24 #[.slice (some ⟨G, 0, none⟩) m c', .int .i64 cap] := by
    rw [hV3]
    have := HL2.out.put 0 (.slice (some ⟨G, 0, none⟩) m c')
    simpa using this
  have R3 : Lies V3 (w.heap.size + 1) 24 #[.slice none 0 0, .int .i64 0] := by rw [hV3]; exact HR2.out.far (p := ⟨w.heap.size, 0, none⟩) (by simp) _
  have hb3 : Below w.heap.size w V3 := by rw [hV3]; exact HB2.out.setCell (p := ⟨w.heap.size, 0, none⟩) (Nat.le_refl _) _
  have hG3 : Lies V3 G 28 cur := by rw [hV3]; exact HLG.out.far (p := ⟨w.heap.size, 0, none⟩) (by show G ≠ w.heap.size; omega) _
  have hN3 : NdsIn V3 (fun g => g ≠ w.heap.size) l (some ⟨G, 0, none⟩) := by rw [hV3]; exact HN2.out.keep (keep_set _ _ (by simp))
  have hO3 : ∀ j, j < m → ∃ B b C cc, (∀ q, q < 6 → cur[j * 6 + q]? = (cellsNd (ndAt l j) B b C cc)[q]?) ∧ NdIn V3 (fun g => g < w.heap.size) (ndAt l j) B C := fun j hj => by
    obtain ⟨B, b, C, cc, h5, h6⟩ := HOLD.out j hj
    exact ⟨B, b, C, cc, h5, by rw [hV3]; exact h6.keep (keep_set _ _ (by show ¬ w.heap.size < w.heap.size; omega))⟩
  rw [← hV3]
  clear hV3 HL2 HR2 HB2 y0 y1 f0 HLG HN2 HOLD
  have HP := Lib.hid (allPorts_any l (some ⟨G, 0, none⟩) m c' V3 HM.out hm2 (fun i hi => (HK.out i hi).1) hN3.any)
  obtain ⟨y0, y1⟩ := two_cells L3
  have HL3 := Lib.hid L3
  have HR3 := Lib.hid R3
  have HB3 := Lib.hid hb3
  have HG3 := Lib.hid hG3
  have HO3 := Lib.hid hO3
  clear L3 R3 hb3 hG3 hO3 hN3
  go_wp2_with fail
  refine HP.out.mono ?_
  rintro e w4 ⟨gp, np, cp, ps, rfl, hnp, hncp, hgp, hpl, hpc, hb4⟩
  have L4 := HL3.out.below hb4 HL3.out.lt
  have R4 := HR3.out.below hb4 HR3.out.lt
  have hb5 := HB3.out.trans (hb4.mono HB3.out.size)
  have hGs := HG3.out.lt
  have hCut : Cut w4 (w.heap.size + 2) G gp m l 0 cur ps := by
    refine ⟨HG3.out.below hb4 hGs, hpl, by rw [hcs]; exact Nat.mul_le_mul_right 6 hmc, HM.out, ⟨by omega, by have := HB3.out.size; omega, by omega⟩, hpc, fun j hj => absurd hj (Nat.not_lt_zero _), fun j _ hjm => ?_⟩
    obtain ⟨B, b, C, cc, h5, h6⟩ := HO3.out j hjm
    exact ⟨B, b, C, cc, h5, (h6.below hb4 (Nat.le_refl _)).keep (keep_wide fun q hq _ => ⟨by omega, by have := HB3.out.size; omega⟩)⟩
  have HINV : Hid (np = (portsOf (l.drop 0)).length ∧ np ≤ cp ∧ (portsOf (l.drop 0) ≠ [] → 0 = offN l 0 * 2) ∧ (∃ cs, Cut w4 (w.heap.size + 2) G gp m l 0 cs ps ∧ cs.size = c' * 6) ∧ Lies w4 w.heap.size 24 #[.slice (some ⟨G, 0, none⟩) m c', .int .i64 cap] ∧ Lies w4 (w.heap.size + 1) 24 #[.slice none 0 0, .int .i64 0] ∧ Below w.heap.size w w4) := Lib.hid ⟨by simpa using hnp, hncp, fun _ => by simp [offN, portsOf], ⟨cur, hCut, hcs⟩, L4, R4, hb5⟩
  clear HP y0 y1 HL3 HR3 HB3 hb4 HG3 HO3 hCut hnp hncp hpl hpc hcs hb5 R4
  obtain ⟨y0, y1⟩ := two_cells L4
  clear L4
  go_wp2_with fail
  go_loopw [3, 17] (fun v y wr => ∃ (i oq n cq : Nat), i ≤ m ∧ y = .int .i64 i ∧ v = .slice (some ⟨gp, oq, none⟩) n cq ∧ n ≤ 10000000000 ∧ Hid (n = (portsOf (l.drop i)).length ∧ n ≤ cq ∧ (portsOf (l.drop i) ≠ [] → oq = offN l i * 2) ∧ (∃ cs, Cut wr (w.heap.size + 2) G gp m l i cs ps ∧ cs.size = c' * 6) ∧ Lies wr w.heap.size 24 #[.slice (some ⟨G, 0, none⟩) m c', .int .i64 cap] ∧ Lies wr (w.heap.size + 1) 24 #[.slice none 0 0, .int .i64 0] ∧ Below w.heap.size w wr)) (fun _ y _ => m - (intOf y).toNat)
  case atStart =>
    refine ⟨0, 0, np, cp, Nat.zero_le _, rfl, rfl, ?_, HINV⟩
    have h1 := portsOf_le l 100000 (fun i hi => (HK.out i hi).1) l.length (Nat.le_refl _)
    rw [List.take_length] at h1
    have h2 := HINV.out.1
    rw [List.drop_zero] at h2
    have := HM.out
    have h3 : l.length * 100000 ≤ 100000 * 100000 := Nat.mul_le_mul_right _ (by omega)
    omega
  case round =>
    clear HINV y0 y1
    obtain ⟨i, oq, n, cq, hi, rfl, rfl, hn9, hV⟩ := hrel
    rename World => wo
    by_cases hlt : i < m
    · have hil : i < l.length := by have := HM.out; omega
      obtain ⟨hv1, hv2, hv3, ⟨cs, hv4, hv5⟩, hv6, hv7, hv8⟩ := hV.out
      obtain ⟨B, bb, C, cc, hcq, hNd⟩ := hv4.old i (Nat.le_refl _) hlt
      have hks := HK.out i hil
      have hpd := portsOf_drop l i hil
      obtain ⟨x, hx⟩ : ∃ x, x = ndAt l i := ⟨_, rfl⟩
      have HX := Lib.hid hx
      rw [← hx] at hcq hNd hks hpd
      have x3 := (hv4.lies.cell (i * 6 + 3)).trans (hcq 3 (by omega))
      have f3 := hv4.lies.frozen (i * 6 + 3)
      simp only [cellsNd, List.getElem?_cons_zero, List.getElem?_cons_succ] at x3
      have HS := Lib.hid (strClone_any x.name wo (by have := hNd.1.1; omega))
      have hsz4 := hv4.size
      have hoL := hv4.lies.lt
      have hoB := hv6.lt
      have hoR := hv7.lt
      have hoP := hv4.plies.lt
      have hown : w.heap.size + 2 ≤ G ∧ w.heap.size + 2 ≤ gp ∧ gp ≠ G := hv4.own
      obtain ⟨n0, n1⟩ := two_cells hv6
      have HNd := Lib.hid hNd
      have HPD := Lib.hid hpd
      have HCQ := Lib.hid hcq
      have HCUT := Lib.hid hv4
      have HLB := Lib.hid hv6
      have HRB := Lib.hid hv7
      have HBW := Lib.hid hv8
      have HV1 := Lib.hid hv1
      have HV3 := Lib.hid hv3
      have HV5 := Lib.hid hv5
      clear hx hNd hpd hcq hv1 hv3 hv5 hv4 hv6 hv7 hv8 hV
      go_wp2_with fail
      refine HS.out.mono ?_
      rintro e w4 ⟨rfl, hb4⟩
      clear HS x3 f3 n0 n1
      have hL4 := HCUT.out.lies.below hb4 hoL
      have x3 := (hL4.cell (i * 6 + 3)).trans (HCQ.out 3 (by omega))
      simp only [cellsNd, List.getElem?_cons_zero, List.getElem?_cons_succ] at x3
      have f3 := hL4.frozen (i * 6 + 3)
      have HL4 := Lib.hid hL4
      clear hL4
      go_upto_region 8 with fail
      obtain ⟨V5, hV5⟩ : ∃ V, V = w4.setCell ⟨G, i * 6 + 3, none⟩ (.string x.name) := ⟨_, rfl⟩
      have L5 : Lies V5 G 28 cs := by rw [hV5]; exact lies_same HL4.out (by rw [← HL4.out.cell]; exact x3)
      have hfar5 : ∀ q, q ≠ G → q < wo.heap.size → V5.heap[q]? = wo.heap[q]? := fun q hq hql => by rw [hV5]; exact (Below.heap_setCell w4 _ _ q hq).trans (hb4.block q hql)
      have hs5 : wo.heap.size ≤ V5.heap.size := by rw [hV5]; simpa [World.setCell] using hb4.size
      have HB5 : Hid (Below w.heap.size w V5) := Lib.hid (by rw [hV5]; exact (HBW.out.trans (hb4.mono HBW.out.size)).setCell (p := ⟨G, i * 6 + 3, none⟩) (by show w.heap.size ≤ G; omega) _)
      rw [← hV5]
      clear hV5 f3 x3 HL4 hb4 HBW
      have x4 := (L5.cell (i * 6 + 4)).trans (HCQ.out 4 (by omega))
      simp only [cellsNd, List.getElem?_cons_zero, List.getElem?_cons_succ] at x4
      have HA := Lib.hid (copiedAlts_any x.alts B x.alts.length (capN x.alts.length bb) V5 rfl (by omega) (HNd.out.2.1.keep (fun q j hq hql => ⟨World.cell?_of_block (hfar5 q hq.1 hql), trivial⟩)))
      have HFAR5 := Lib.hid hfar5
      have HL5 := Lib.hid L5
      clear L5 hfar5
      go_wp2_with fail
      refine HA.out.mono ?_
      rintro e w6 ⟨A', ca, rfl, hA6, hb6⟩
      clear HA x4
      have hl5 := HL5.out.lt
      have L6 := HL5.out.below hb6 hl5
      have x4 := (L6.cell (i * 6 + 4)).trans (HCQ.out 4 (by omega))
      simp only [cellsNd, List.getElem?_cons_zero, List.getElem?_cons_succ] at x4
      have f4 := L6.frozen (i * 6 + 4)
      have HL6 := Lib.hid L6
      clear L6
      go_upto_region 9 with fail
      obtain ⟨V7, hV7⟩ : ∃ V, V = w6.setCell ⟨G, i * 6 + 4, none⟩ (.slice A' x.alts.length (capN x.alts.length ca)) := ⟨_, rfl⟩
      have L7 : Lies V7 G 28 (cs.setIfInBounds (i * 6 + 4) (.slice A' x.alts.length (capN x.alts.length ca))) := by rw [hV7]; exact HL6.out.put _ _
      have hfar7 : ∀ q, q ≠ G → q < wo.heap.size → V7.heap[q]? = wo.heap[q]? := fun q hq hql => by rw [hV7]; exact ((Below.heap_setCell w6 _ _ q hq).trans (hb6.block q (by omega))).trans (HFAR5.out q hq hql)
      have hA7 : AltIn V7 (fun g => wo.heap.size ≤ g) x.alts A' := by
        rw [hV7]
        exact (hA6.keep (keep_set _ _ (by show ¬ V5.heap.size ≤ G; omega))).keep (keep_wide fun q hq _ => by omega)
      have HB7 : Hid (Below w.heap.size w V7) := Lib.hid (by rw [hV7]; exact (HB5.out.trans (hb6.mono HB5.out.size)).setCell (p := ⟨G, i * 6 + 4, none⟩) (by show w.heap.size ≤ G; omega) _)
      rw [← hV7]
      clear hV7 x4 f4 hb6 hA6 HB5 HL6 HL5 HFAR5
      obtain ⟨cs7, hcs7⟩ : ∃ q, q = cs.setIfInBounds (i * 6 + 4) (.slice A' x.alts.length (capN x.alts.length ca)) := ⟨_, rfl⟩
      rw [← hcs7] at L7
      have h75 : cs7[i * 6 + 5]? = some (.slice C x.to.length (capN x.to.length cc)) := by
        rw [hcs7, Array.getElem?_setIfInBounds, if_neg (by omega)]
        exact HCQ.out 5 (by omega)
      have x5 := (L7.cell (i * 6 + 5)).trans h75
      have f5 := L7.frozen (i * 6 + 5)
      have hT7 : ToIn V7 (fun _ => True) x.to C := HNd.out.2.2.keep (fun q j hq hql => ⟨World.cell?_of_block (hfar7 q hq.1 hql), trivial⟩)
      have HL7 := Lib.hid L7
      have HT7 := Lib.hid hT7
      have HA7 := Lib.hid hA7
      have HF7 := Lib.hid hfar7
      have HC7 := Lib.hid hcs7
      have H75 := Lib.hid h75
      have hwos : w.heap.size + 2 ≤ wo.heap.size := by omega
      clear L7 hT7 hA7 hfar7 hcs7 h75 hks
      cases C with
      | none =>
        have heq : ∀ U, (binOp .neq 26 (.slice none x.to.length (capN x.to.length cc)) (.slice none 0 0)).run Tryd.prog U = .ok (.bool false) U := fun U => by kernel_rfl
        have hto : x.to = [] := by
          cases hq : x.to with
          | nil => rfl
          | cons z r =>
            have h9 := HT7.out
            rw [hq] at h9
            obtain ⟨_, _, ⟨e, _⟩, _⟩ := h9 0 (by simp)
            cases e
        have HTO := Lib.hid hto
        clear hto
        go_wp2_with fail
        go_roundw
        case rel =>
          go_light
          have hpd := HPD.out
          rw [HTO.out, List.nil_append] at hpd
          refine ⟨i + 1, oq, n, cq, by omega, by go_num, rfl, by omega, Lib.hid ⟨by rw [HV1.out, hpd], hv2, fun h => ?_, ⟨cs7, ?_, by rw [HC7.out, Array.size_setIfInBounds]; exact HV5.out⟩, (HF7.out _ (by omega) hoB).trans HLB.out, (HF7.out _ (by omega) hoR).trans HRB.out, HB7.out⟩⟩
          · rw [offN_succ l i hil, ← HX.out, HTO.out]
            exact HV3.out (by rw [hpd]; exact h)
          · refine HCUT.out.step hlt hwos HF7.out HL7.out (by rw [HC7.out, Array.size_setIfInBounds]) (B := A') (C := none) (b := ca) (c := cc) (fun q hq => ?_) (fun j hj => ?_) (by rw [← HX.out]; exact HNd.out.1) (by rw [← HX.out]; exact HA7.out) (fun h => absurd (by rw [← HX.out]; exact HTO.out) h)
            · rw [← HX.out, HC7.out, Array.getElem?_setIfInBounds]
              have h9 := HCQ.out q hq
              rcases (by omega : q = 0 ∨ q = 1 ∨ q = 2 ∨ q = 3 ∨ q = 4 ∨ q = 5) with rfl | rfl | rfl | rfl | rfl | rfl
              all_goals first
                | (rw [if_neg (by omega), h9]; rfl)
                | (rw [if_pos rfl, if_pos (by omega)]; rfl)
            · rw [HC7.out, Array.getElem?_setIfInBounds, if_neg (by omega)]
        case measure => simp [intOf]; omega
      | some ad =>
        have heq : ∀ U, (binOp .neq 26 (.slice (some ad) x.to.length (capN x.to.length cc)) (.slice none 0 0)).run Tryd.prog U = .ok (.bool true) U := fun U => by kernel_rfl
        have hnn : x.to.length ≤ n := by
          have h1 := HV1.out
          rw [HPD.out, List.length_append] at h1
          omega
        obtain ⟨mt, hmt⟩ : ∃ mt, mt = x.to.length := ⟨_, rfl⟩
        have HMT := Lib.hid hmt
        rw [← hmt] at x5 heq hnn
        clear hmt
        have hnq : n ≤ cq := hv2
        go_upto_region 11 with fail
        clear heq
        go_region
        obtain ⟨o2, ho2⟩ : ∃ o2, o2 = (if cq = mt then oq else oq + mt * 2) := ⟨_, rfl⟩
        rw [show (if cq = mt then (some ⟨gp, oq, none⟩ : Option Addr) else some ⟨gp, oq + mt * 2, none⟩) = some ⟨gp, o2, none⟩ by rw [ho2]; split <;> rfl]
        have HO2 := Lib.hid ho2
        clear ho2
        obtain ⟨V8, hV8⟩ : ∃ V, V = (V7.setCell ⟨G, i * 6 + 5, none⟩ (.slice (some ⟨gp, oq, none⟩) mt mt)).drew := ⟨_, rfl⟩
        have L8 : Lies V8 G 28 (cs7.setIfInBounds (i * 6 + 5) (.slice (some ⟨gp, oq, none⟩) mt mt)) := by
          rw [hV8]
          exact (HL7.out.put _ _).drew
        have hfar8 : ∀ q, q ≠ G → q < wo.heap.size → V8.heap[q]? = wo.heap[q]? := fun q hq hql => by rw [hV8]; exact (Below.heap_setCell V7 ⟨G, i * 6 + 5, none⟩ _ q hq).trans (HF7.out q hq hql)
        have hA8 : AltIn V8 (fun g => wo.heap.size ≤ g) x.alts A' := by
          rw [hV8]
          exact (HA7.out.keep (keep_set _ _ (by show ¬ wo.heap.size ≤ G; omega))).keep (fun q _ hq _ => ⟨rfl, hq⟩)
        have hb8 : Below w.heap.size w V8 := by rw [hV8]; exact (HB7.out.setCell (p := ⟨G, i * 6 + 5, none⟩) (by show w.heap.size ≤ G; omega) _).drew
        rw [← hV8]
        clear hV8 x5 f5
        have HL8 := Lib.hid L8
        have HF8 := Lib.hid hfar8
        have HA8 := Lib.hid hA8
        have HB8 := Lib.hid hb8
        clear L8 hfar8 hA8 hb8 HF7 HA7 HB7 HL7
        go_wp2_with fail
        go_roundw
        case rel =>
          go_light
          have h1 := HV1.out
          rw [HPD.out, List.length_append, ← HMT.out] at h1
          have hs9 : (cs7.setIfInBounds (i * 6 + 5) (.slice (some ⟨gp, oq, none⟩) mt mt)).size = cs.size := by rw [Array.size_setIfInBounds, HC7.out, Array.size_setIfInBounds]
          have ht9 : x.to ≠ [] → oq = offN l i * 2 := fun h => HV3.out (by rw [HPD.out]; exact fun e => h (List.append_eq_nil_iff.1 e).1)
          refine ⟨i + 1, o2, n - mt, cq - mt, by omega, by go_num, rfl, by omega, Lib.hid ⟨by omega, by omega, fun h => ?_, ⟨_, ?_, by rw [hs9]; exact HV5.out⟩, (HF8.out _ (by omega) hoB).trans HLB.out, (HF8.out _ (by omega) hoR).trans HRB.out, HB8.out⟩⟩
          · rw [offN_succ l i hil, ← HX.out, ← HMT.out, HO2.out]
            have h2 := List.length_pos_iff.2 h
            rw [if_neg (by omega), HV3.out (by rw [HPD.out]; exact fun e => h (List.append_eq_nil_iff.1 e).2)]
            omega
          · refine HCUT.out.step hlt hwos HF8.out HL8.out hs9 (B := A') (C := some ⟨gp, oq, none⟩) (b := ca) (c := mt) (fun q hq => ?_) (fun j hj => ?_) (by rw [← HX.out]; exact HNd.out.1) (by rw [← HX.out]; exact HA8.out) (fun h => by rw [ht9 (by rw [HX.out]; exact h)])
            · rw [← HX.out, HC7.out, Array.getElem?_setIfInBounds, Array.getElem?_setIfInBounds]
              have h9 := HCQ.out q hq
              have hmm : mt = x.to.length := HMT.out
              rcases (by omega : q = 0 ∨ q = 1 ∨ q = 2 ∨ q = 3 ∨ q = 4 ∨ q = 5) with rfl | rfl | rfl | rfl | rfl | rfl
              all_goals first
                | (rw [if_neg (by omega), if_neg (by omega), h9]; rfl)
                | (rw [if_neg (by omega), if_pos rfl, if_pos (by omega)]; rfl)
                | (rw [if_pos rfl, if_pos (by simp; omega)]; simp only [cellsNd, List.getElem?_cons_zero, List.getElem?_cons_succ]; rw [← hmm, capN_of (Nat.le_refl _)])
            · rw [HC7.out, Array.getElem?_setIfInBounds, if_neg (by omega), Array.getElem?_setIfInBounds, if_neg (by omega)]
        case measure => simp [intOf]; omega
    · have him : i = m := by omega
      subst him
      obtain ⟨_, _, _, ⟨cs, hv4, hv5⟩, hv6, hv7, hv8⟩ := hV.out
      obtain ⟨n0, n1⟩ := two_cells hv6
      obtain ⟨r0, r1⟩ := two_cells hv7
      have g0 := hv7.frozen 0
      have g1 := hv7.frozen 1
      have HC9 := Lib.hid hv4
      have HB9 := Lib.hid hv8
      have HR9 := Lib.hid hv7
      clear hv6 hv7 hv4 hv8 hV
      go_wp2_with fail
      have hR9 := lies_put2 HR9.out (.slice (some ⟨G, 0, none⟩) i c') (.int .i64 cap)
      have hc9 := ((HC9.out.far ⟨w.heap.size + 1, 0, none⟩ (by show w.heap.size + 1 < w.heap.size + 2; omega) (.slice (some ⟨G, 0, none⟩) i c')).far ⟨w.heap.size + 1, 1, none⟩ (by show w.heap.size + 1 < w.heap.size + 2; omega) (.int .i64 cap)).less (show w.heap.size ≤ w.heap.size + 2 by omega)
      exact bodyPost_ret (res_net1 (p := 2) Tryd.results24 rfl hR9) rfl ⟨G, gp, c', cs, ps, rfl, hc9, hv5, hmc, hcm, (HB9.out.setCell (p := ⟨w.heap.size + 1, 0, none⟩) (by show w.heap.size ≤ w.heap.size + 1; omega) _).setCell (p := ⟨w.heap.size + 1, 1, none⟩) (by show w.heap.size ≤ w.heap.size + 1; omega) _⟩
end Lx
end Go.Proofs.YtceblpjlklogpaaDoor
namespace Go.Proofs.YtceblpjlklogpaaDoor
open Go Go.RowKit
namespace Lx
set_option maxRecDepth 100000
theorem res_node {fn : Func} {p : Tmp} (h : fn.results = #[.cell p 28]) {tmps : Array Value} {g : Nat} {a b c d e f : Value} {w : World} (hp : tmps.getD p undef = .pointer (some ⟨g, 0, none⟩)) (L : Lies w g 28 #[a, b, c, d, e, f]) :
    (results fn tmps).run Tryd.prog w = .ok (.agg #[a, b, c, d, e, f]) w := by
  have hl := run_loadVar_row (P := Tryd.prog) w g 28 28 #[a, b, c, d, e, f] (0, 0) _ L Tryd.underlying28 rfl (by kernel_rfl)
  have hp' : tmps[p]?.getD undef = .pointer (some ⟨g, 0, none⟩) := by simpa using hp
  simp only [results, h]
  simp [hp', asAddr, hl]
/-- What a function that makes a node answers. -/
def GivesNd (x : Nd) (w : World) (e : Ending) (w' : World) : Prop :=
  ∃ B b C c, e = .returned (ndv x B b C c) ∧ NdIn w' (fun g => w.heap.size ≤ g) x B C ∧ Below w.heap.size w w'
theorem zero_cells (n j : Nat) (h : j < n) : (madeCells #[.int .i64 0, .int .i64 0] n)[j]? = some (.int .i64 0) := by
  unfold madeCells
  rw [Array.getElem?_map, Array.getElem?_eq_getElem (by simpa using h)]
  simp only [Array.getElem_range, Option.map_some]
  show some (#[Value.int .i64 0, Value.int .i64 0][j % 2]!) = _
  have h2 : j % 2 = 0 ∨ j % 2 = 1 := by omega
  rcases h2 with h2 | h2 <;> rw [h2] <;> rfl
theorem lies_put6 {w : World} {G : Nat} {t : TypeId} {p0 p1 p2 p3 p4 p5 : Value} (h : Lies w G t #[p0, p1, p2, p3, p4, p5]) (a b c d e f : Value) : Lies (put6 w G 0 a b c d e f) G t #[a, b, c, d, e, f] := by
  have := (((((h.put 0 a).put 1 b).put 2 c).put 3 d).put 4 e).put 5 f
  simpa [put6] using this
set_option maxHeartbeats 8000000 in
theorem fresh_any (x : Nd) (B C : Option Addr) (b c : Nat) (w : World) (hp : x.ports ≤ 100000) (hI : NdIn w AnyB x B C) (hal : x.alts.length ≤ 100000) (hT : PTab w) : Calls Tryd.prog 28 #[ndv x B b C c] w (GivesNd (freshV x) w) := by
  obtain ⟨W, hW⟩ : ∃ W, W = ((w.alloc (.cells #[.int .i64 x.kind, .int .i64 x.level, .int .i64 x.n, .string x.name, .slice B x.alts.length (capN x.alts.length b), .slice C x.to.length (capN x.to.length c)] 28)).alloc (.cells #[.int .i64 0, .int .i64 0, .int .i64 0, .string ⟨#[]⟩, .slice none 0 0, .slice none 0 0] 28)) := ⟨_, rfl⟩
  have hbW : Below w.heap.size w W := by rw [hW]; exact ((Below.refl _ w).alloc (Nat.le_refl _) _).alloc (by simp) _
  have L1 : Lies W w.heap.size 28 #[.int .i64 x.kind, .int .i64 x.level, .int .i64 x.n, .string x.name, .slice B x.alts.length (capN x.alts.length b), .slice C x.to.length (capN x.to.length c)] := by rw [hW]; exact (Lies.new _ _ _).old _
  have R1 : Lies W (w.heap.size + 1) 28 #[.int .i64 0, .int .i64 0, .int .i64 0, .string ⟨#[]⟩, .slice none 0 0, .slice none 0 0] := by rw [hW]; simpa using Lies.new (w.alloc (.cells #[.int .i64 x.kind, .int .i64 x.level, .int .i64 x.n, .string x.name, .slice B x.alts.length (capN x.alts.length b), .slice C x.to.length (capN x.to.length c)] 28)) 28 #[.int .i64 0, .int .i64 0, .int .i64 0, .string ⟨#[]⟩, .slice none 0 0, .slice none 0 0]
  have HI := Lib.hid hI
  have HT := Lib.hid hT
  have HS := Lib.hid (strClone_any x.name W (by have := hI.1.1; omega))
  have y3 := L1.cell 3
  simp at y3
  obtain ⟨i0, hi0, hz0, hz1, hz2⟩ := info_partsN infoPo
  obtain ⟨p, hp9⟩ : ∃ p, p = x.ports := ⟨_, rfl⟩
  rw [← hp9] at hp
  have HP := Lib.hid hp9
  have hmk : ∀ U : World, (Instr.makeSlice 26 (.int .i64 p) (.int .i64 p)).run Tryd.prog U = .ok (.slice (some ⟨U.heap.size, 0, none⟩) p p) (U.alloc (.cells (madeCells #[.int .i64 0, .int .i64 0] (p * 2)) 46)) := fun U => by
    have h := run_make (P := Tryd.prog) U 26 46 i0 (.agg #[.int .i64 0, .int .i64 0]) Tryd.underlying26 hi0 hz0 .i64 .i64 (p : Int) (p : Int) (by omega) (by omega) (by rw [hz2]; omega) (by omega)
    rw [hz1, show (Value.agg #[.int .i64 0, .int .i64 0]).cells = #[.int .i64 0, .int .i64 0] from rfl] at h
    simpa using h
  obtain ⟨M, hM⟩ : ∃ M, M = madeCells #[.int .i64 0, .int .i64 0] (p * 2) := ⟨_, rfl⟩
  rw [← hM] at hmk
  have HMM := Lib.hid hM
  clear hI hT hM hp9 hi0 hz0 hz1 hz2
  unfold ndv
  go_enter Tryd.func28, Tryd.ntmps28
  go_upto_region 1 with fail
  rw [← hW]
  clear hW
  go_wp2_with fail
  refine HS.out.mono ?_
  rintro e w2 ⟨rfl, hb2⟩
  have L2 := L1.below hb2 L1.lt
  have R2 := R1.below hb2 R1.lt
  have f3 := L2.frozen 3
  have g3 := L2.cell 3
  simp at g3
  have HL2 := Lib.hid L2
  have HR2 := Lib.hid R2
  clear HS y3 L1 R1 L2 R2
  go_upto_region 2 with fail
  obtain ⟨V2, hV2⟩ : ∃ V, V = w2.setCell ⟨w.heap.size, 3, none⟩ (.string x.name) := ⟨_, rfl⟩
  have L3 : Lies V2 w.heap.size 28 #[.int .i64 x.kind, .int .i64 x.level, .int .i64 x.n, .string x.name, .slice B x.alts.length (capN x.alts.length b), .slice C x.to.length (capN x.to.length c)] := by rw [hV2]; exact lies_same HL2.out rfl
  have R3 : Lies V2 (w.heap.size + 1) 28 #[.int .i64 0, .int .i64 0, .int .i64 0, .string ⟨#[]⟩, .slice none 0 0, .slice none 0 0] := by rw [hV2]; exact HR2.out.far (p := ⟨w.heap.size, 3, none⟩) (by simp) _
  have hb3 : Below w.heap.size w V2 := by rw [hV2]; exact (hbW.trans (hb2.mono hbW.size)).setCell (p := ⟨w.heap.size, 3, none⟩) (Nat.le_refl _) _
  rw [← hV2]
  clear hV2 f3 g3 HL2 HR2 hb2 hbW
  have HA := Lib.hid (copiedAlts_any x.alts B x.alts.length (capN x.alts.length b) V2 rfl (by omega) ((HI.out.2.1.below hb3 (Nat.le_refl _)).keep (keep_wide fun _ _ _ => trivial)))
  have g4 := L3.cell 4
  simp at g4
  go_wp2_with fail
  refine HA.out.mono ?_
  rintro e w4 ⟨A', ca, rfl, hA4, hb4⟩
  have L4 := L3.below hb4 L3.lt
  have R4 := R3.below hb4 R3.lt
  have hV2b := R3.lt
  have f4 := L4.frozen 4
  have h4 := L4.cell 4
  simp at h4
  have HL4 := Lib.hid L4
  have HR4 := Lib.hid R4
  clear HA g4 L3 R3 L4 R4
  go_upto_region 3 with fail
  obtain ⟨V4, hV4⟩ : ∃ V, V = w4.setCell ⟨w.heap.size, 4, none⟩ (.slice A' x.alts.length (capN x.alts.length ca)) := ⟨_, rfl⟩
  have L5 : Lies V4 w.heap.size 28 #[.int .i64 x.kind, .int .i64 x.level, .int .i64 x.n, .string x.name, .slice A' x.alts.length (capN x.alts.length ca), .slice C x.to.length (capN x.to.length c)] := by
    rw [hV4]
    have := HL4.out.put 4 (.slice A' x.alts.length (capN x.alts.length ca))
    simpa using this
  have R5 : Lies V4 (w.heap.size + 1) 28 #[.int .i64 0, .int .i64 0, .int .i64 0, .string ⟨#[]⟩, .slice none 0 0, .slice none 0 0] := by rw [hV4]; exact HR4.out.far (p := ⟨w.heap.size, 4, none⟩) (by simp) _
  have hb5 : Below w.heap.size w V4 := by rw [hV4]; exact (hb3.trans (hb4.mono hb3.size)).setCell (p := ⟨w.heap.size, 4, none⟩) (Nat.le_refl _) _
  have hA5 : AltIn V4 (fun g => V2.heap.size ≤ g) x.alts A' := by
    rw [hV4]
    exact hA4.keep (keep_set _ _ (by show ¬ V2.heap.size ≤ w.heap.size; omega))
  have hV24 : V2.heap.size ≤ V4.heap.size := by rw [hV4]; simpa [World.setCell] using hb4.size
  rw [← hV4]
  clear hV4 f4 h4 HL4 HR4 hb4 hA4
  have HQ := Lib.hid (ports_any x A' C ca c V4 HI.out.1 (HT.out.below hb5 (Nat.le_refl _)))
  unfold ndv at HQ
  rw [← HP.out] at HQ
  obtain ⟨e0, e1, e2, e3, e4, e5⟩ := six_cells L5
  have HL5 := Lib.hid L5
  have HR5 := Lib.hid R5
  have HA5 := Lib.hid hA5
  clear L5 R5 hA5
  go_wp2_with fail
  refine HQ.out.mono ?_
  rintro e w6 ⟨rfl, hb6⟩
  have L6 := HL5.out.below hb6 HL5.out.lt
  have R6 := HR5.out.below hb6 HR5.out.lt
  have hA6 := HA5.out.below hb6 (Nat.le_refl _)
  have h6 := hb5.trans (hb6.mono hb5.size)
  have L7 := L6.old (.cells M 46)
  have R7 := R6.old (.cells M 46)
  have f5 := L7.frozen 5
  have g5 := L7.cell 5
  simp at g5
  have hV26 : V2.heap.size ≤ w6.heap.size := by
    have h9 := hb6.size
    omega
  have HL7 := Lib.hid L7
  have HR7 := Lib.hid R7
  have HA6 := Lib.hid hA6
  have HB6 := Lib.hid h6
  clear HQ e0 e1 e2 e3 e4 e5 HL5 HR5 HA5 L6 R6 L7 R7 hA6 h6 hb6
  go_upto_region 4 with fail
  obtain ⟨V6, hV6⟩ : ∃ V, V = (w6.alloc (.cells M 46)).setCell ⟨w.heap.size, 5, none⟩ (.slice (some ⟨w6.heap.size, 0, none⟩) p p) := ⟨_, rfl⟩
  have L8 : Lies V6 w.heap.size 28 #[.int .i64 x.kind, .int .i64 x.level, .int .i64 x.n, .string x.name, .slice A' x.alts.length (capN x.alts.length ca), .slice (some ⟨w6.heap.size, 0, none⟩) p p] := by
    rw [hV6]
    have := HL7.out.put 5 (.slice (some ⟨w6.heap.size, 0, none⟩) p p)
    simpa using this
  have R8 : Lies V6 (w.heap.size + 1) 28 #[.int .i64 0, .int .i64 0, .int .i64 0, .string ⟨#[]⟩, .slice none 0 0, .slice none 0 0] := by rw [hV6]; exact HR7.out.far (p := ⟨w.heap.size, 5, none⟩) (by simp) _
  have M8 : Lies V6 w6.heap.size 46 M := by rw [hV6]; exact (Lies.new _ _ _).far (p := ⟨w.heap.size, 5, none⟩) (by show w6.heap.size ≠ w.heap.size; omega) _
  have hb8 : Below w.heap.size w V6 := by rw [hV6]; exact (HB6.out.alloc HB6.out.size _).setCell (p := ⟨w.heap.size, 5, none⟩) (Nat.le_refl _) _
  have hA8 : AltIn V6 (fun g => V2.heap.size ≤ g) x.alts A' := by
    rw [hV6]
    exact (HA6.out.below ((Below.refl _ w6).alloc (Nat.le_refl _) _) (Nat.le_refl _)).keep (keep_set _ _ (by show ¬ V2.heap.size ≤ w.heap.size; omega))
  rw [← hV6]
  clear hV6 f5 g5 HL7 HR7 HA6 HB6
  obtain ⟨e0, e1, e2, e3, e4, e5⟩ := six_cells L8
  obtain ⟨q0, q1, q2, q3, q4, q5⟩ := six_cells R8
  have r0 := R8.frozen 0
  have r1 := R8.frozen 1
  have r2 := R8.frozen 2
  have r3 := R8.frozen 3
  have r4 := R8.frozen 4
  have r5 := R8.frozen 5
  have HR8 := Lib.hid R8
  have HM8 := Lib.hid M8
  have HB8 := Lib.hid hb8
  have HA8 := Lib.hid hA8
  clear L8 R8 M8 hb8 hA8
  go_wp2_with fail
  have hR9 := lies_put6 HR8.out (.int .i64 x.kind) (.int .i64 x.level) (.int .i64 x.n) (.string x.name) (.slice A' x.alts.length (capN x.alts.length ca)) (.slice (some ⟨w6.heap.size, 0, none⟩) p p)
  refine bodyPost_ret (res_node (p := 2) Tryd.results28 rfl hR9) rfl ⟨A', ca, some ⟨w6.heap.size, 0, none⟩, p, ?_, ?_, put6_below HB8.out (Nat.le_succ _) _ _ _ _ _ _⟩
  · simp only [ndv, freshV, List.length_replicate, ← HP.out, capN_of (Nat.le_refl p)]
  · refine ⟨⟨HI.out.1.1, HI.out.1.2.1, by simp only [freshV, List.length_replicate, ← HP.out]; omega⟩, ?_, ?_⟩
    · exact (HA8.out.keep (put6_keep (by show ¬ V2.heap.size ≤ w.heap.size + 1; omega) _ _ _ _ _ _)).keep (keep_wide fun q hq _ => by omega)
    · have hto : ToIn V6 (fun g => g = w6.heap.size) (freshV x).to (some ⟨w6.heap.size, 0, none⟩) := fun j hj => by
        simp only [freshV, List.length_replicate, ← HP.out] at hj
        have hc : ∀ k, k < p * 2 → V6.cell? ⟨w6.heap.size, k, none⟩ = some (.int .i64 0) := fun k hk => by
          rw [HM8.out.cell k, HMM.out]
          exact zero_cells _ _ hk
        refine ⟨w6.heap.size, 0, ⟨rfl, rfl⟩, ?_, ?_⟩
        · rw [hc _ (by omega)]; simp [freshV]
        · rw [hc _ (by omega)]; simp [freshV]
      exact (hto.keep (put6_keep (by show ¬ w.heap.size + 1 = w6.heap.size; omega) _ _ _ _ _ _)).keep (keep_wide fun q hq _ => by omega)
end Lx
end Go.Proofs.YtceblpjlklogpaaDoor
namespace Go.Proofs.YtceblpjlklogpaaDoor
open Go Go.RowKit
namespace Lx
set_option maxRecDepth 100000
theorem trim_step {l : List Nd} {q : Nat} (hq : q < l.length) (h0 : (ndAt l q).kind = 0) : trimV (l.take (q + 1)) = trimV (l.take q) := by
  rw [List.take_succ_eq_append_getElem hq]
  exact trimV_zero _ _ (by rw [← ndAt_lt hq]; exact h0)
theorem trim_stop {l : List Nd} {q : Nat} (hq : q < l.length) (h0 : (ndAt l q).kind ≠ 0) : trimV (l.take (q + 1)) = l.take (q + 1) := by
  rw [List.take_succ_eq_append_getElem hq]
  exact trimV_full _ _ (by rw [← ndAt_lt hq]; exact h0)
set_option maxHeartbeats 4000000 in
theorem trimmed_any (l : List Nd) (A : Option Addr) (m c : Nat) (w : World) (hm : m = l.length) (hl : m ≤ 140737488351232) (hmc : m ≤ c) (hN : NdsIn w AnyB l A) : Calls Tryd.prog 29 #[.slice A m c] w fun e w' => e = .returned (.slice A (trimV l).length c) ∧ Below w.heap.size w w' := by
  have HN := Lib.hid hN
  have HM := Lib.hid hm
  obtain ⟨N, hN9⟩ : ∃ N, N = (trimV l).length := ⟨_, rfl⟩
  rw [← hN9]
  have HNN := Lib.hid hN9
  clear hN hm hN9
  go_enter Tryd.func29, Tryd.ntmps29
  go_wp2_with fail
  go_loopw [0] (fun v wr => ∃ k : Nat, k ≤ m ∧ v = .slice A k c ∧ Hid (trimV (l.take k) = trimV l) ∧ Below w.heap.size w wr) (fun v _ => match v with | .slice _ k _ => k | _ => 0)
  case atStart => exact ⟨m, Nat.le_refl _, rfl, Lib.hid (by rw [List.take_of_length_le (by have := HM.out; omega)]), Below.refl _ _⟩
  case round =>
    obtain ⟨k, hk, rfl, hT, hbr⟩ := hrel
    cases k with
    | zero =>
      go_wp2_with fail
      go_ret
      refine ⟨?_, hbr⟩
      have : N = 0 := by rw [HNN.out, ← hT.out]; simp [trimV]
      rw [this]
      rfl
    | succ q =>
      have hql : q < l.length := by have := HM.out; omega
      obtain ⟨g, o, x, B, bb, C, cc, hx, rfl, _, ⟨x0, x1, x2, x3, x4, x5⟩, hI⟩ := NdsIn.get (HN.out.below hbr (Nat.le_refl _)) q hql
      have HX := Lib.hid hx
      have HC := Lib.hid (isFree_any x B C bb cc wr)
      unfold ndv at HC
      have hqc : q + 1 ≤ c := by omega
      clear hx hI
      cases hk0 : (x.kind == 0) with
      | true =>
        rw [hk0] at HC
        have HK := Lib.hid hk0
        clear hk0
        go_wp2_with fail
        refine HC.out.mono ?_
        rintro e w2 ⟨rfl, hb2⟩
        go_wp2_with fail
        go_roundw
        case rel =>
          go_light
          exact ⟨q, by omega, rfl, Lib.hid (by rw [← hT.out, trim_step hql (by rw [← HX.out]; simpa using HK.out)]), hbr.trans (hb2.mono hbr.size)⟩
        case measure => simp
      | false =>
        rw [hk0] at HC
        have HK := Lib.hid hk0
        clear hk0
        go_wp2_with fail
        refine HC.out.mono ?_
        rintro e w2 ⟨rfl, hb2⟩
        go_wp2_with fail
        go_ret
        refine ⟨?_, hbr.trans (hb2.mono hbr.size)⟩
        have : N = q + 1 := by
          rw [HNN.out, ← hT.out, trim_stop hql (by rw [← HX.out]; simpa using HK.out), List.length_take]
          omega
        rw [this]
        rfl
end Lx
end Go.Proofs.YtceblpjlklogpaaDoor
namespace Go.Proofs.YtceblpjlklogpaaDoor
open Go Go.RowKit
namespace Lx
set_option maxRecDepth 100000
theorem res_net2 {fn : Func} {p q : Tmp} (h : fn.results = #[.cell p 24, .tmp q]) {tmps : Array Value} {g : Nat} {a b : Value} {w : World} (hp : tmps.getD p undef = .pointer (some ⟨g, 0, none⟩)) (L : Lies w g 24 #[a, b]) :
    (results fn tmps).run Tryd.prog w = .ok (.tuple #[.agg #[a, b], tmps.getD q undef]) w := by
  have hl := run_loadVar_row (P := Tryd.prog) w g 24 24 #[a, b] (0, 0) _ L Tryd.underlying24 rfl (by kernel_rfl)
  have hp' : tmps[p]?.getD undef = .pointer (some ⟨g, 0, none⟩) := by simpa using hp
  simp only [results, h]
  simp [hp', asAddr, hl]
theorem res_net3 {fn : Func} {p q r : Tmp} (h : fn.results = #[.cell p 24, .tmp q, .tmp r]) {tmps : Array Value} {g : Nat} {a b : Value} {w : World} (hp : tmps.getD p undef = .pointer (some ⟨g, 0, none⟩)) (L : Lies w g 24 #[a, b]) :
    (results fn tmps).run Tryd.prog w = .ok (.tuple #[.agg #[a, b], tmps.getD q undef, tmps.getD r undef]) w := by
  have hl := run_loadVar_row (P := Tryd.prog) w g 24 24 #[a, b] (0, 0) _ L Tryd.underlying24 rfl (by kernel_rfl)
  have hp' : tmps[p]?.getD undef = .pointer (some ⟨g, 0, none⟩) := by simpa using hp
  simp only [results, h]
  simp [hp', asAddr, hl]
/-- What a function that makes a net answers, with what comes behind it. -/
def GivesNet (ns : List Nd) (cap : Int) (r : List Value) (w : World) (e : Ending) (w' : World) : Prop :=
  ∃ A c, e = .returned (.tuple (netv ns A c cap :: r).toArray) ∧ NdsIn w' (fun g => w.heap.size ≤ g) ns A ∧ Below w.heap.size w w'
def newNs : List Nd := [⟨1, 0, 0, ⟨#[]⟩, [], [(1, 0)]⟩, ⟨13, 0, 0, ⟨#[]⟩, [], [(0, 0)]⟩]
theorem newNs_b1 : NdB ⟨1, 0, 0, ⟨#[]⟩, [], [(1, 0)]⟩ := ⟨by decide, by decide, by decide⟩
theorem newNs_b2 : NdB ⟨13, 0, 0, ⟨#[]⟩, [], [(0, 0)]⟩ := ⟨by decide, by decide, by decide⟩
theorem newNo_any (most : Int) (w : World) (h : ¬ (2 ≤ most ∧ most ≤ 4000)) : Calls Tryd.prog 18 #[.int .i64 most] w (GivesNet [] 0 [.int .i64 1] w) := by
  have hR : Lies (w.alloc (.cells #[.slice none 0 0, .int .i64 0] 24)) w.heap.size 24 #[.slice none 0 0, .int .i64 0] := Lies.new _ _ _
  have c0 := hR.cell 0
  have c1 := hR.cell 1
  have f0 := hR.frozen 0
  have f1 := hR.frozen 1
  simp at c0 c1
  by_cases k1 : most < 2
  · have e1 : decide (most < 2) = true := decide_eq_true k1
    go_enter Tryd.func18, Tryd.ntmps18
    go_wp2_with fail
    exact bodyPost_ret (res_net2 (p := 2) Tryd.results18 rfl hR) rfl ⟨none, 0, rfl, NdsIn.nil, (Below.refl _ w).alloc (Nat.le_refl _) _⟩
  · have e1 : decide (most < 2) = false := decide_eq_false k1
    have e2 : decide (4000 < most) = true := decide_eq_true (by omega)
    go_enter Tryd.func18, Tryd.ntmps18
    go_wp2_with fail
    exact bodyPost_ret (res_net2 (p := 2) Tryd.results18 rfl hR) rfl ⟨none, 0, rfl, NdsIn.nil, (Below.refl _ w).alloc (Nat.le_refl _) _⟩
theorem lies_at {w : World} {g : Nat} {t : TypeId} {cs : Array Value} (h : w.heap.size = g) : Lies (w.alloc (.cells cs t)) g t cs := by
  subst h
  exact Lies.new _ _ _
set_option maxHeartbeats 4000000 in
theorem new_any (most : Int) (w : World) (h : 2 ≤ most ∧ most ≤ 4000) : Calls Tryd.prog 18 #[.int .i64 most] w (GivesNet newNs most [.int .i64 0] w) := by
  have e1 : decide (most < 2) = false := decide_eq_false (by omega)
  have e2 : decide (4000 < most) = false := decide_eq_false (by omega)
  go_enter Tryd.func18, Tryd.ntmps18
  go_wp2_with fail
  refine bodyPost_ret (res_net2 (p := 2) Tryd.results18 rfl ((((((Lies.new w _ _).old _).old _).old _).old _).old _)) rfl ⟨some ⟨w.heap.size + 1 + 1 + 1 + 1 + 1, 0, none⟩, 2, rfl, ?_, (((((((Below.refl _ w).alloc (Nat.le_refl _) _).alloc (by simp) _).alloc (by simp; omega) _).alloc (by simp; omega) _).alloc (by simp; omega) _).alloc (by simp; omega) _)⟩
  generalize hO1 : (Obj.cells #[Value.slice (some { block := w.heap.size + 1 + 1 + 1 + 1 + 1, off := 0 }) 2 2, Value.int IntKind.i64 most] 24) = O1
  obtain ⟨w1, hw1⟩ : ∃ w1, w1 = w.alloc O1 := ⟨_, rfl⟩
  have hs1 : w1.heap.size = w.heap.size + 1 := by rw [hw1]; simp
  rw [← hw1]
  have hP1 := lies_at (w := w1) (t := 46) (cs := #[.int .i64 1, .int .i64 0]) hs1
  obtain ⟨w2, hw2⟩ : ∃ w2, w2 = w1.alloc (.cells #[.int .i64 1, .int .i64 0] 46) := ⟨_, rfl⟩
  have hs2 : w2.heap.size = w.heap.size + 1 + 1 := by rw [hw2]; simp [hs1]
  rw [← hw2] at hP1 ⊢
  generalize hO3 : (Obj.cells #[Value.int IntKind.i64 1, Value.int IntKind.i64 0, Value.int IntKind.i64 0, Value.string { data := #[] }, Value.slice none 0 0, Value.slice (some { block := w.heap.size + 1, off := 0 }) 1 1] 28) = O3
  have hP2 := hP1.old O3
  obtain ⟨w3, hw3⟩ : ∃ w3, w3 = w2.alloc O3 := ⟨_, rfl⟩
  have hs3 : w3.heap.size = w.heap.size + 1 + 1 + 1 := by rw [hw3]; simp [hs2]
  rw [← hw3] at hP2 ⊢
  have hQ3 := lies_at (w := w3) (t := 46) (cs := #[.int .i64 0, .int .i64 0]) hs3
  have hP3 := hP2.old (.cells #[.int .i64 0, .int .i64 0] 46)
  obtain ⟨w4, hw4⟩ : ∃ w4, w4 = w3.alloc (.cells #[.int .i64 0, .int .i64 0] 46) := ⟨_, rfl⟩
  have hs4 : w4.heap.size = w.heap.size + 1 + 1 + 1 + 1 := by rw [hw4]; simp [hs3]
  rw [← hw4] at hP3 hQ3 ⊢
  generalize hO5 : (Obj.cells #[Value.int IntKind.i64 13, Value.int IntKind.i64 0, Value.int IntKind.i64 0, Value.string { data := #[] }, Value.slice none 0 0, Value.slice (some { block := w.heap.size + 1 + 1 + 1, off := 0 }) 1 1] 28) = O5
  have hP4 := hP3.old O5
  have hQ4 := hQ3.old O5
  obtain ⟨w5, hw5⟩ : ∃ w5, w5 = w4.alloc O5 := ⟨_, rfl⟩
  have hs5 : w5.heap.size = w.heap.size + 1 + 1 + 1 + 1 + 1 := by rw [hw5]; simp [hs4]
  rw [← hw5] at hP4 hQ4 ⊢
  have hN := lies_at (w := w5) (t := 28) (cs := #[Value.int IntKind.i64 1, Value.int IntKind.i64 0, Value.int IntKind.i64 0, Value.string { data := #[] }, Value.slice none 0 0, Value.slice (some { block := w.heap.size + 1, off := 0 }) 1 1, Value.int IntKind.i64 13, Value.int IntKind.i64 0, Value.int IntKind.i64 0, Value.string { data := #[] }, Value.slice none 0 0, Value.slice (some { block := w.heap.size + 1 + 1 + 1, off := 0 }) 1 1]) hs5
  have hP5 := hP4.old (.cells #[Value.int IntKind.i64 1, Value.int IntKind.i64 0, Value.int IntKind.i64 0, Value.string { data := #[] }, Value.slice none 0 0, Value.slice (some { block := w.heap.size + 1, off := 0 }) 1 1, Value.int IntKind.i64 13, Value.int IntKind.i64 0, Value.int IntKind.i64 0, Value.string { data := #[] }, Value.slice none 0 0, Value.slice (some { block := w.heap.size + 1 + 1 + 1, off := 0 }) 1 1] 28)
  have hQ5 := hQ4.old (.cells #[Value.int IntKind.i64 1, Value.int IntKind.i64 0, Value.int IntKind.i64 0, Value.string { data := #[] }, Value.slice none 0 0, Value.slice (some { block := w.heap.size + 1, off := 0 }) 1 1, Value.int IntKind.i64 13, Value.int IntKind.i64 0, Value.int IntKind.i64 0, Value.string { data := #[] }, Value.slice none 0 0, Value.slice (some { block := w.heap.size + 1 + 1 + 1, off := 0 }) 1 1] 28)
  intro i hi
  rcases (by simp [newNs] at hi; omega : i = 0 ∨ i = 1) with rfl | rfl
  · refine ⟨_, 0, none, 0, some ⟨w.heap.size + 1, 0, none⟩, 1, ⟨rfl, by omega⟩, ⟨hN.cell 0, hN.cell 1, hN.cell 2, hN.cell 3, hN.cell 4, hN.cell 5⟩, newNs_b1, AltIn.nil, fun j hj => ?_⟩
    obtain rfl : j = 0 := by simp [newNs] at hj; omega
    exact ⟨_, 0, ⟨rfl, by omega⟩, hP5.cell 0, hP5.cell 1⟩
  · refine ⟨_, 0, none, 0, some ⟨w.heap.size + 1 + 1 + 1, 0, none⟩, 1, ⟨rfl, by omega⟩, ⟨hN.cell 6, hN.cell 7, hN.cell 8, hN.cell 9, hN.cell 10, hN.cell 11⟩, newNs_b2, AltIn.nil, fun j hj => ?_⟩
    obtain rfl : j = 0 := by simp [newNs] at hj; omega
    exact ⟨_, 0, ⟨rfl, by omega⟩, hQ5.cell 0, hQ5.cell 1⟩
end Lx
end Go.Proofs.YtceblpjlklogpaaDoor
