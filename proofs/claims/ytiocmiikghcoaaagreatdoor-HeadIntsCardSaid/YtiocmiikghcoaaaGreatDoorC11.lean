/-
  Texts that lie one behind the other: RcE RcF R7G HOf.
-/
import Derived.Test.YtiocmiikghcoaaaGreatDoorC1
import Derived.Test.YtiocmiikghcoaaaGreatDoorC10
import Derived.Test.YtiocmiikghcoaaaGreatDoorC7
import Derived.Test.YtiocmiikghcoaaaGreatDoorC3
import Derived.Test.YtiocmiikghcoaaaGreatDoorC4
import Derived.Test.YtiocmiikghcoaaaGreatDoorC6
import Derived.Maps.AppendAt
import Derived.Deep.RegionHeld3
import Derived.Deep.DrawnRows
import Derived.Deep.Cut
namespace Go.Proofs.YtiocmiikghcoaaaGreatDoor
open Go.RowKit
namespace Lx
set_option maxRecDepth 100000
theorem own_empty {w : World} {b base : Nat} (h : Lies w b 124 #[]) (hb : base ≤ b) : w.ownsRow base 124 2 (.slice (some ⟨b, 0, none⟩) 0 0) 0 [] :=
 ⟨by simp, .inr ⟨b, 0, #[], rfl, hb, h, Nat.le_refl _, by simp [maxLen], by simp, by simp⟩⟩
theorem cellsA_one (l : List (ByteArray × Int)) : ∀ u ∈ cellsA l, u.oneCell' = true := fun u hu => by
 simp only [cellsA, List.mem_flatMap, List.mem_cons, List.not_mem_nil, or_false] at hu
 obtain ⟨a, _, rfl | rfl⟩ := hu <;> rfl
theorem sizeL_drop_le (l : List Tr) (i : Nat) : sizeL (l.drop i) ≤ sizeL l := by
 induction l generalizing i with
 | nil => simp
 | cons a r ih =>
  cases i with
  | zero => simp
  | succ i => simp only [List.drop_succ_cons, sizeL]; have := ih i; omega
def AGive (l : List (ByteArray × Int)) (w : World) (e : Ending) (w' : World) : Prop :=
 ∃ A c, e = .returned (.slice A l.length c) ∧ AIn w' Any l A ∧ Below w.heap.size w w'
set_option maxHeartbeats 8000000 in
theorem cons5_any (d : Nat) : ∀ (t : Tr) (A : Option Addr) (c : Nat) (l : List (ByteArray × Int)) (Al : Option Addr) (cl : Nat) (w : World), depthT t ≤ d → okT t → l ≠ [] → l.length + sizeT t ≤ 10000 → TIn w Any t A → AIn w Any l Al →
  Calls Tryz.prog 115 #[tv t A c, .slice Al l.length cl] w (AGive (onceN l (metT t)) w) := by
 induction d with
 | zero => intro t A c l Al cl w h; cases t; rw [depthT] at h; omega
 | succ d ih =>
  intro t A c l Al cl w hd hok hne hsz hI hAl
  obtain ⟨k, s, n, a, lt⟩ := t
  have hdL : depthL lt ≤ d := by rw [depthT] at hd; omega
  have hsz2 : l.length + sizeL lt + 1 ≤ 10000 := by rw [sizeT] at hsz; omega
  rw [okT] at hok
  rw [TIn] at hI
  have HI := Lib.hid hI.2.2
  have HOK := Lib.hid hok.2
  have hn8 : k = 8 → 0 ≤ n := fun e => (hok.1.1 e).1
  have HFM0 : fromN k n ≤ lt.length := by
   rw [fromN]
   split
   ·rename_i h; have := hok.1.1 h; omega
   ·omega
  have HFR : Hid (metL k n 0 lt = metL k n (fromN k n) (lt.drop (fromN k n))) := Lib.hid (by have := metL_skip k n lt 0 (by omega) HFM0; simpa using this)
  have HMT : Hid (metT (.node k s n a lt) = (if 0 ≤ ownN k n lt then [(s, ownN k n lt)] else []) ++ metL k n 0 lt) := Lib.hid (by rw [metT])
  have h9 : lt.length ≤ 9 := hok.1.2.2.2.2.2.2
  have HOWN0 := Lib.hid (fun W => own5_any k n a s A lt lt.length c W rfl)
  obtain ⟨O, hOe⟩ : ∃ O, O = ownN k n lt := ⟨_, rfl⟩
  rw [← hOe] at HMT HOWN0
  obtain ⟨g0, o0, rfl⟩ : ∃ g o, Al = some ⟨g, o, none⟩ := by
   cases l with
   | nil => exact absurd rfl hne
   | cons p r => obtain ⟨g, o, h, _⟩ := hAl 0 (by simp); exact ⟨g, o, h⟩
  have hl1 : 0 < l.length := by cases l with | nil => exact absurd rfl hne | cons p r => simp
  show Calls Tryz.prog 115 #[.agg #[.int .i64 k, .string s, .int .i64 n, .int .i64 a, .slice A lt.length (capF lt.length c)], .slice (some ⟨g0, o0, none⟩) l.length cl] w _
  replace HOWN0 := Lib.hid (fun W => own5_any k n a s A lt lt.length (capF lt.length c) W rfl)
  rw [← hOe] at HOWN0
  generalize capF lt.length c = c at HOWN0 ⊢
  have HAL1 := Lib.hid hAl
  generalize g0 = gl at HAL1 ⊢
  generalize o0 = ol at HAL1 ⊢
  obtain ⟨m, hm⟩ : ∃ m, m = lt.length := ⟨_, rfl⟩
  rw [← hm] at HOWN0 ⊢
  have hm1 : m ≤ lt.length := by omega
  have hm2 : lt.length ≤ m := by omega
  have HFM : Hid (fromN k n ≤ m) := Lib.hid (by omega)
  have hm9 : m ≤ 9 := by omega
  obtain ⟨ml, hml⟩ : ∃ ml, ml = l.length := ⟨_, rfl⟩
  rw [← hml]
  have HML := Lib.hid hml
  have hml1 : 0 < ml := by omega
  have HNE : Hid (0 < ml) := Lib.hid hml1
  have hml2 : ml ≤ 10000 := by omega
  have hszm : ml + sizeL lt + 1 ≤ 10000 := by omega
  have HZ : Hid (l.length + sizeL lt + 1 ≤ 10000) := Lib.hid hsz2
  obtain ⟨i0, hi0, hz0, hz1, hz2⟩ : ∃ i, Tryz.prog.info? 124 = some i ∧ i.zero = some (.agg #[.string ⟨#[]⟩, .int .i64 0]) ∧ i.size = 2 ∧ i.bytes = 24 := by
   have h := infoA
   cases hq : Tryz.prog.info? 124 with
   | none => rw [hq] at h; cases h
   | some i => rw [hq] at h; simp only [Option.map_some, Option.some.injEq, Prod.mk.injEq] at h; exact ⟨i, rfl, h.1, h.2.1, h.2.2⟩
  have hb0 : Below w.heap.size w (w.alloc (.cells #[.int .i64 k, .string s, .int .i64 n, .int .i64 a, .slice A m c] 49)) := (Below.refl _ w).alloc (Nat.le_refl _) _
  have hL := Lies.new w 49 #[.int .i64 k, .string s, .int .i64 n, .int .i64 a, .slice A m c]
  have HAL0 : Hid (∀ X, Below w.heap.size w X → AIn X Any l (some ⟨gl, ol, none⟩)) := Lib.hid fun X h => AIn.below HAL1.out h (Nat.le_refl _)
  have HOWN : Hid (∀ X, Below w.heap.size w X → Calls Tryz.prog 110 #[.agg #[.int .i64 k, .string s, .int .i64 n, .int .i64 a, .slice A m c]] X fun e w' => e = .returned (.int .i64 O) ∧ Below X.heap.size X w') := Lib.hid fun X _ => HOWN0.out X
  clear hm hd hsz hsz2 hok hI hAl HAL1 HOWN0 hne hOe hml h9 HFM0 hl1
  by_cases hO : 0 ≤ O
  ·have hd : decide (0 ≤ O) = true := decide_eq_true hO
   obtain ⟨q, hq⟩ : ∃ q, q = ofN l s := ⟨_, rfl⟩
   have HOFC := Lib.hid (fun X (hX : AIn X Any l (some ⟨gl, ol, none⟩)) => of5_any l s (some ⟨gl, ol, none⟩) ml cl X HML.out (by omega) hX)
   rw [← hq] at HOFC
   by_cases hof : q < 0
   ·have hd2 : decide (q < 0) = true := decide_eq_true hof
    have HOF : Hid (ofN l s < 0) := Lib.hid (by rw [← hq]; exact hof)
    clear hq
    go_enter Tryz.func115, Tryz.ntmps115
    go_wp2_with fail
    refine (HOWN.out _ hb0).mono ?_
    rintro e w1 ⟨rfl, hb1⟩
    have hb2 := hb0.trans (hb1.mono hb0.size)
    have hL2 := hL.below hb1 hL.lt
    obtain ⟨⟨x0, x1, x2, x3, x4⟩, _⟩ := hL2.five
    have HOC := Lib.hid (HOFC.out w1 (HAL0.out _ hb2))
    go_wp2_with fail
    refine HOC.out.mono ?_
    rintro e V ⟨rfl, hbV⟩
    replace hL2 := hL2.below hbV hL2.lt
    replace hb2 := hb2.trans (hbV.mono hb2.size)
    clear hb1 hbV HOC HOFC x0 x1 x2 x3 x4
    have HSS : Hid (∀ V', Below V.heap.size V V' → (fun V' : World => (V'.cell? ⟨w.heap.size, 0, none⟩ = some (.int .i64 k) ∧ V'.cell? ⟨w.heap.size, 1, none⟩ = some (.string s) ∧ V'.cell? ⟨w.heap.size, 2, none⟩ = some (.int .i64 n) ∧ V'.cell? ⟨w.heap.size, 3, none⟩ = some (.int .i64 a) ∧ V'.cell? ⟨w.heap.size, 4, none⟩ = some (.slice A m c))) V') := Lib.hid fun V' h =>
     ⟨(h.cell (p := ⟨w.heap.size, 0, none⟩) hL2.lt).trans (hL2.cell 0), (h.cell (p := ⟨w.heap.size, 1, none⟩) hL2.lt).trans (hL2.cell 1), (h.cell (p := ⟨w.heap.size, 2, none⟩) hL2.lt).trans (hL2.cell 2), (h.cell (p := ⟨w.heap.size, 3, none⟩) hL2.lt).trans (hL2.cell 3), (h.cell (p := ⟨w.heap.size, 4, none⟩) hL2.lt).trans (hL2.cell 4)⟩
    have HAL : Hid (∀ V', Below V.heap.size V V' → AIn V' Any l (some ⟨gl, ol, none⟩)) := Lib.hid fun V' h => HAL0.out _ (hb2.trans (h.mono hb2.size))
    replace HOWN : Hid (∀ X, Below V.heap.size V X → Calls Tryz.prog 110 #[.agg #[.int .i64 k, .string s, .int .i64 n, .int .i64 a, .slice A m c]] X fun e w' => e = .returned (.int .i64 O) ∧ Below X.heap.size X w') := Lib.hid fun X hX => HOWN.out X (hb2.trans (hX.mono hb2.size))
    go_upto_region 2 with fail
    have hb_1 : Below V.heap.size V V := Below.refl _ _
    refine wp_region_K (S := (fun V' : World => (V'.cell? ⟨w.heap.size, 0, none⟩ = some (.int .i64 k) ∧ V'.cell? ⟨w.heap.size, 1, none⟩ = some (.string s) ∧ V'.cell? ⟨w.heap.size, 2, none⟩ = some (.int .i64 n) ∧ V'.cell? ⟨w.heap.size, 3, none⟩ = some (.int .i64 a) ∧ V'.cell? ⟨w.heap.size, 4, none⟩ = some (.slice A m c)))) 10 rfl (HSS.out _ hb_1.drew) (fun hSs => ?_)
    change wpAnyK _ _ _ _ _ _ 11 (Array.replicate 11 false) _ _
    refine tkB (i := 1) (oi := ⟨some 17, _, _, _, _, _⟩) (v := .slice (some ⟨gl, ol, none⟩) ml cl) hSs ?_
    try go_frame
    refine tkA (i := 3) (oi := ⟨some 19, _, _, _, _, _⟩) (v := .pointer (some ⟨w.heap.size, 1, none⟩)) hSs ?_
    try go_frame
    refine tkA (i := 4) (oi := ⟨some 20, _, _, _, _, _⟩) (v := .string s) hSs ?_
    try go_frame
    refine tkA (i := 5) (oi := ⟨some 21, _, _, _, _, _⟩) (v := .agg #[.int .i64 k, .string s, .int .i64 n, .int .i64 a, .slice A m c]) hSs ?_
    try go_frame
    refine wpAnyK_one  (i := 0) rfl rfl (by kernel_rfl) (fun K hK => ?_)
    go_simp
    have hb_2 := Below.alloc hb_1 hb_1.size (.cells #[] 124)
    have hl_2 : Lies (V.alloc (.cells #[] 124)) (V.heap.size) 124 #[] := Lies.new _ _ _
    refine hK.out _ _ (fun _ => HSS.out _ (hb_2.drew)) (fun hS9 => ?_)
    have hS_2 := hS9 (by decide)
    clear hK K hS9
    try go_frame
    refine wpAnyK_one  (i := 2) rfl rfl (by kernel_rfl) (fun K hK => ?_)
    refine wp_append_lies _ _ _ _ rfl (V.heap.size) 124 i0 _ 2 24 Tryz.underlying98 hi0 hz0 hz1 hz2 rfl (by omega) (.slice (some ⟨V.heap.size, 0, none⟩) 0 0) 0 [] rfl (own_empty hl_2 (Nat.le_refl _))
     ⟨gl, ol, none⟩ ml cl (cellsA l) rfl (by rw [cellsA_len, HML.out]) (AIn.cells (HAL.out _ (hb_2.drew))) (fun u hu => cellsA_one l u hu)
     (by omega) (by simp only [maxLen]; omega) (by omega) (by simp) (V.heap.size + 1) (by simp) ?_
    intro g_3 c_3 u_3 o_3 hg_3 hat_3 hlt_3
    simp only [Nat.zero_add, List.nil_append] at o_3
    have hb_3 := Below.grown (hb_2.drew) hg_3 (by simp) (fun q hq => ((own_empty hl_2 (Nat.le_refl _)).lt q hq).1)
    refine hK.out _ _ (fun _ => HSS.out _ hb_3) (fun hS9 => ?_)
    have hS_3 := hS9 (by decide)
    clear hK K hS9
    try go_frame
    refine wpAnyK_one  (i := 6) rfl rfl (by kernel_rfl) (fun K hK => ?_)
    go_simp
    refine (HOWN.out _ hb_3 ).mono ?_
    rintro e u_4 ⟨rfl, hq_4⟩
    have hb_4 := hb_3.trans (hq_4.mono hb_3.size)
    have o_4 := own_below o_3 hq_4 (Nat.le_refl _)
    refine hK.out _ _ (fun _ => HSS.out _ hb_4) (fun hS9 => ?_)
    have hS_4 := hS9 (by decide)
    clear hK K hS9
    try go_frame
    refine tkA (i := 7) (oi := ⟨some 23, _, _, _, _, _⟩) (v := .agg #[.string s, .int .i64 O]) hS_4 ?_
    try go_frame
    refine wpAnyK_one  (i := 8) rfl rfl (by kernel_rfl) (fun K hK => ?_)
    go_simp
    have hb_5 := Below.alloc hb_4 hb_4.size (.cells #[.string s, .int .i64 O] 124)
    have hl_5 : Lies (u_4.alloc (.cells #[.string s, .int .i64 O] 124)) (u_4.heap.size) 124 #[.string s, .int .i64 O] := Lies.new _ _ _
    have o_5 := (o_4).alloc (.cells #[.string s, .int .i64 O] 124)
    refine hK.out _ _ (fun _ => HSS.out _ hb_5) (fun hS9 => ?_)
    have hS_5 := hS9 (by decide)
    clear hK K hS9
    try go_frame
    refine wpAnyK_one  (i := 9) rfl rfl (by kernel_rfl) (fun K hK => ?_)
    refine wp_append_lies _ _ _ _ rfl (V.heap.size) 124 i0 _ 2 24 Tryz.underlying98 hi0 hz0 hz1 hz2 rfl (by omega) (.slice (some ⟨g_3, 0, none⟩) ml c_3) ml (cellsA l) rfl o_5
     ⟨u_4.heap.size, 0, none⟩ 1 1 [.string s, .int .i64 O] rfl rfl (World.news_of_block (cs := #[.string s, .int .i64 O]) (t := 124) (fr := (0, 0)) hl_5) (by simp [Value.oneCell'])
     (by omega) (by simp only [maxLen]; omega) (by omega) (by have := hb_5.size; exact this) (u_4.heap.size + 1) (by simp) ?_
    intro g_6 c_6 u_6 o_6 hg_6 hat_6 hlt_6
    have hb_6 := Below.grown hb_5 hg_6 (by have := hb_5.size; exact this) (fun q hq => ((o_5).lt q hq).1)
    refine hK.out _ _ (fun _ => HSS.out _ hb_6) (fun hS9 => ?_)
    have hS_6 := hS9 (by decide)
    clear hK K hS9
    try go_frame
    refine wpAnyK_one  (i := 10) rfl rfl (by kernel_rfl) (fun K hK => ?_)
    go_simp
    refine hK.out _ _ (fun h => absurd rfl h) (fun _ => ?_)
    clear hK K
    try go_frame
    refine wpAnyK_done (by kernel_rfl) ?_ _
    have hb9 := hb2.trans (hb_6.mono hb2.size)
    have HA9 : Hid (AIn u_6 Any (l ++ [(s, O)]) (some ⟨g_6, 0, none⟩)) := Lib.hid (AIn.any (AIn.owned (A := some ⟨g_6, 0, none⟩) (n := ml + 1) (c := c_6) (by
     have e : cellsA (l ++ [(s, O)]) = cellsA l ++ [.string s, .int .i64 O] := by simp [cellsA]
     rw [e]; exact o_6)))
    have HM9 : Hid (ml + 1 = (l ++ [(s, O)]).length) := Lib.hid (by rw [List.length_append, ← HML.out]; rfl)
    have HQ9 : Hid (onceN (l ++ [(s, O)]) (metL k n (fromN k n) (lt.drop (fromN k n))) = onceN l (metT (.node k s n a lt))) := Lib.hid (by
     rw [← HFR.out, HMT.out, onceN_app]
     rw [if_pos (show 0 ≤ O from hO)]
     rw [onceN, if_pos (show ofN l s < 0 from HOF.out)]
     rfl)
    have hL9 := hL2.below hb_6 hL2.lt
    clear o_6 hg_6 hat_6 hlt_6 hb_6
    have HF := Lib.hid (from5_any k n a s A m c u_6 hn8)
    obtain ⟨⟨y0, y1, y2, y3, y4⟩, _⟩ := hL9.five
    go_wp2_with fail
    refine HF.out.mono ?_
    rintro e w8 ⟨rfl, hb8⟩
    have hbw := hb9.trans (hb8.mono hb9.size)
    have hLw := hL9.below hb8 hL9.lt
    have HA8 := Lib.hid (AIn.below (HA9.out) hb8 (Nat.le_refl _))
    obtain ⟨fr, hfr⟩ : ∃ fr, fr = fromN k n := ⟨_, rfl⟩
    have HQ8 : Hid (onceN (l ++ [(s, O)]) (metL k n fr (lt.drop fr)) = onceN l (metT (.node k s n a lt))) := by rw [hfr]; exact HQ9
    have hfm : fr ≤ m := by rw [hfr]; exact HFM.out
    have HFRO := Lib.hid hfr
    have HS8 : Hid ((l ++ [(s, O)]).length + sizeL (lt.drop fr) ≤ 10000) := Lib.hid (by
     have h1 := HM9.out
     have h2 : sizeL (lt.drop fr) ≤ sizeL lt := sizeL_drop_le lt fr
     omega)
    rw [← hfr]
    clear hfr hb8 hL9 HF hb9 y0 y1 y2 y3 y4
    go_wp2_with fail
    go_loopw [1, 5] (fun v x wr => ∃ (i : Nat) (acc : List (ByteArray × Int)) (A2 : Option Addr) (ma c2 : Nat), i ≤ m ∧ x = .int .i64 i ∧ v = .slice A2 ma c2 ∧ Hid (ma = acc.length) ∧ Hid (acc.length + sizeL (lt.drop i) ≤ 10000) ∧ Hid (onceN acc (metL k n i (lt.drop i)) = onceN l (metT (.node k s n a lt))) ∧ Hid (acc ≠ []) ∧ fr ≤ i ∧ Hid (AIn wr Any acc A2) ∧ Lies wr w.heap.size 49 #[.int .i64 k, .string s, .int .i64 n, .int .i64 a, .slice A m c] ∧ Below w.heap.size w wr) (fun _ x _ => m - (intOf x).toNat)
    case atStart => exact ⟨fr, l ++ [(s, O)], some ⟨g_6, 0, none⟩, (ml + 1), c_6, hfm, rfl, rfl, HM9, HS8, HQ8, Lib.hid (by have h1 := HM9.out; intro e; rw [e] at h1; have := HNE.out; simp at h1 <;> omega), Nat.le_refl _, HA8, hLw, hbw⟩
    case round =>
     clear hLw hbw HA8 HQ8 HS8
     obtain ⟨i, acc, A2, ma, c2, hi, rfl, rfl, HMA, HSZ, HQ, HNN, hfi, HAC, hLr, hbr⟩ := hrel
     have hbs := hbr.size
     have c4 := hLr.five.1.2.2.2.2
     by_cases hlt : i < m
     ·have hia : i < lt.length := by omega
      obtain ⟨g, o, A', c', ⟨hA, _⟩, d0, d1, d2, d3, d4, hIn⟩ := LIn.at_ lt (LIn.keep lt HI.out fun g j _ h => ⟨hbr.cell (p := ⟨g, j, none⟩) h, trivial⟩) i hia
      subst hA
      simp only [Nat.zero_add] at d0 d1 d2 d3 d4
      have hdp := depthL_mem lt (lt[i]'hia) (List.getElem_mem hia)
      have hok := okL_mem lt (lt[i]'hia) (List.getElem_mem hia) HOK.out
      have HSD := Lib.hid (sizeL_drop lt i hia)
      have HMD : Hid (metL k n i (lt.drop i) = metT (lt[i]'hia) ++ metL k n (i + 1) (lt.drop (i + 1))) := Lib.hid (by rw [List.drop_eq_getElem_cons hia, metL, if_neg (by rw [← HFRO.out]; omega)])
      obtain ⟨tr, hu⟩ : ∃ tr, tr = lt[i]'hia := ⟨_, rfl⟩
      rw [← hu] at d0 d1 d2 d3 d4 hIn hdp hok HSD HMD
      clear hu
      have HC := Lib.hid (ih tr A' c' acc A2 c2 wr (by omega) hok HNN.out (by have h1 := HSZ.out; rw [HSD.out] at h1; omega) hIn HAC.out)
      rw [← HMA.out] at HC
      have HQ2 : Hid (onceN (onceN acc (metT tr)) (metL k n (i + 1) (lt.drop (i + 1))) = onceN l (metT (.node k s n a lt))) := Lib.hid (by rw [← onceN_app, ← HMD.out]; exact HQ.out)
      have HN2 : Hid (onceN acc (metT tr) ≠ []) := Lib.hid (by
       have h1 := (onceN_len acc (metT tr)).1
       have h2 := HNN.out
       intro e
       rw [e] at h1
       exact h2 (List.eq_nil_of_length_eq_zero (by simpa using h1)))
      have HS2 : Hid ((onceN acc (metT tr)).length + sizeL (lt.drop (i + 1)) ≤ 10000) := Lib.hid (by
       have h1 := (onceN_len acc (metT tr)).2
       have h2 := metT_len tr
       have h3 := HSZ.out
       rw [HSD.out] at h3
       omega)
      obtain ⟨acc2, hac2⟩ : ∃ acc2, acc2 = onceN acc (metT tr) := ⟨_, rfl⟩
      rw [← hac2] at HC HQ2 HN2 HS2
      obtain ⟨tk, ts, tn, ta, tl⟩ := tr
      simp only [tv, Tr.kind, Tr.name, Tr.n, Tr.place, Tr.parts] at d0 d1 d2 d3 d4 HC
      clear hac2 hIn hok hdp HQ HMD HSD HSZ HMA HNN HAC
      go_wp2_with fail
      refine HC.out.mono ?_
      rintro e w3 ⟨A3, c3, rfl, hA3, hb3⟩
      have hL3 := hLr.below hb3 hLr.lt
      have hbw3 := hbr.trans (hb3.mono hbs)
      have HA3 := Lib.hid hA3
      obtain ⟨m3, hm3⟩ : ∃ m3, m3 = acc2.length := ⟨_, rfl⟩
      rw [← hm3]
      have HM3 := Lib.hid hm3
      clear hA3 hb3 hLr hbr hbs HC c4 d0 d1 d2 d3 d4 hm3
      go_wp2_with fail
      go_roundw
      case rel => exact ⟨i + 1, acc2, A3, m3, c3, by omega, by go_num, rfl, HM3, HS2, HQ2, HN2, by omega, HA3, hL3, hbw3⟩
      case measure => simp [intOf]; omega
     ·go_wp2_with fail
      go_ret
      have h1 := HQ.out
      rw [List.drop_of_length_le (by omega), metL] at h1
      have h2 : acc = onceN l (metT (.node k s n a lt)) := h1
      exact ⟨A2, c2, by rw [← h2, ← HMA.out]; rfl, by rw [← h2]; exact HAC.out, hbr⟩
   ·have hd2 : decide (q < 0) = false := decide_eq_false hof
    have HQ9 : Hid (onceN l (metL k n (fromN k n) (lt.drop (fromN k n))) = onceN l (metT (.node k s n a lt))) := Lib.hid (by
     rw [← HFR.out, HMT.out, onceN_app, if_pos hO, onceN, if_neg (by rw [← hq]; exact hof)]; rfl)
    clear hq
    go_enter Tryz.func115, Tryz.ntmps115
    go_wp2_with fail
    refine (HOWN.out _ hb0).mono ?_
    rintro e w1 ⟨rfl, hb1⟩
    have hb2 := hb0.trans (hb1.mono hb0.size)
    have hL2 := hL.below hb1 hL.lt
    obtain ⟨⟨x0, x1, x2, x3, x4⟩, _⟩ := hL2.five
    have HOC := Lib.hid (HOFC.out w1 (HAL0.out _ hb2))
    go_wp2_with fail
    refine HOC.out.mono ?_
    rintro e V ⟨rfl, hbV⟩
    replace hL2 := hL2.below hbV hL2.lt
    replace hb2 := hb2.trans (hbV.mono hb2.size)
    have HA9 := Lib.hid (HAL0.out _ hb2)
    clear hb1 hbV HOC HOFC x0 x1 x2 x3 x4
    have HF := Lib.hid (from5_any k n a s A m c V hn8)
    obtain ⟨⟨y0, y1, y2, y3, y4⟩, _⟩ := hL2.five
    go_wp2_with fail
    refine HF.out.mono ?_
    rintro e w8 ⟨rfl, hb8⟩
    have hbw := hb2.trans (hb8.mono hb2.size)
    have hLw := hL2.below hb8 hL2.lt
    have HA8 := Lib.hid (AIn.below (HA9.out) hb8 (Nat.le_refl _))
    obtain ⟨fr, hfr⟩ : ∃ fr, fr = fromN k n := ⟨_, rfl⟩
    have HQ8 : Hid (onceN (l) (metL k n fr (lt.drop fr)) = onceN l (metT (.node k s n a lt))) := by rw [hfr]; exact HQ9
    have hfm : fr ≤ m := by rw [hfr]; exact HFM.out
    have HFRO := Lib.hid hfr
    have HS8 : Hid ((l).length + sizeL (lt.drop fr) ≤ 10000) := Lib.hid (by
     have h1 := HML.out
     have h2 : sizeL (lt.drop fr) ≤ sizeL lt := sizeL_drop_le lt fr
     omega)
    rw [← hfr]
    clear hfr hb8 hL2 HF hb2 HA9 HQ9 y0 y1 y2 y3 y4
    go_wp2_with fail
    go_loopw [1, 5] (fun v x wr => ∃ (i : Nat) (acc : List (ByteArray × Int)) (A2 : Option Addr) (ma c2 : Nat), i ≤ m ∧ x = .int .i64 i ∧ v = .slice A2 ma c2 ∧ Hid (ma = acc.length) ∧ Hid (acc.length + sizeL (lt.drop i) ≤ 10000) ∧ Hid (onceN acc (metL k n i (lt.drop i)) = onceN l (metT (.node k s n a lt))) ∧ Hid (acc ≠ []) ∧ fr ≤ i ∧ Hid (AIn wr Any acc A2) ∧ Lies wr w.heap.size 49 #[.int .i64 k, .string s, .int .i64 n, .int .i64 a, .slice A m c] ∧ Below w.heap.size w wr) (fun _ x _ => m - (intOf x).toNat)
    case atStart => exact ⟨fr, l, (some ⟨gl, ol, none⟩), ml, cl, hfm, rfl, rfl, HML, HS8, HQ8, Lib.hid (by have h1 := HML.out; intro e; rw [e] at h1; have := HNE.out; simp at h1 <;> omega), Nat.le_refl _, HA8, hLw, hbw⟩
    case round =>
     clear hLw hbw HA8 HQ8 HS8
     obtain ⟨i, acc, A2, ma, c2, hi, rfl, rfl, HMA, HSZ, HQ, HNN, hfi, HAC, hLr, hbr⟩ := hrel
     have hbs := hbr.size
     have c4 := hLr.five.1.2.2.2.2
     by_cases hlt : i < m
     ·have hia : i < lt.length := by omega
      obtain ⟨g, o, A', c', ⟨hA, _⟩, d0, d1, d2, d3, d4, hIn⟩ := LIn.at_ lt (LIn.keep lt HI.out fun g j _ h => ⟨hbr.cell (p := ⟨g, j, none⟩) h, trivial⟩) i hia
      subst hA
      simp only [Nat.zero_add] at d0 d1 d2 d3 d4
      have hdp := depthL_mem lt (lt[i]'hia) (List.getElem_mem hia)
      have hok := okL_mem lt (lt[i]'hia) (List.getElem_mem hia) HOK.out
      have HSD := Lib.hid (sizeL_drop lt i hia)
      have HMD : Hid (metL k n i (lt.drop i) = metT (lt[i]'hia) ++ metL k n (i + 1) (lt.drop (i + 1))) := Lib.hid (by rw [List.drop_eq_getElem_cons hia, metL, if_neg (by rw [← HFRO.out]; omega)])
      obtain ⟨tr, hu⟩ : ∃ tr, tr = lt[i]'hia := ⟨_, rfl⟩
      rw [← hu] at d0 d1 d2 d3 d4 hIn hdp hok HSD HMD
      clear hu
      have HC := Lib.hid (ih tr A' c' acc A2 c2 wr (by omega) hok HNN.out (by have h1 := HSZ.out; rw [HSD.out] at h1; omega) hIn HAC.out)
      rw [← HMA.out] at HC
      have HQ2 : Hid (onceN (onceN acc (metT tr)) (metL k n (i + 1) (lt.drop (i + 1))) = onceN l (metT (.node k s n a lt))) := Lib.hid (by rw [← onceN_app, ← HMD.out]; exact HQ.out)
      have HN2 : Hid (onceN acc (metT tr) ≠ []) := Lib.hid (by
       have h1 := (onceN_len acc (metT tr)).1
       have h2 := HNN.out
       intro e
       rw [e] at h1
       exact h2 (List.eq_nil_of_length_eq_zero (by simpa using h1)))
      have HS2 : Hid ((onceN acc (metT tr)).length + sizeL (lt.drop (i + 1)) ≤ 10000) := Lib.hid (by
       have h1 := (onceN_len acc (metT tr)).2
       have h2 := metT_len tr
       have h3 := HSZ.out
       rw [HSD.out] at h3
       omega)
      obtain ⟨acc2, hac2⟩ : ∃ acc2, acc2 = onceN acc (metT tr) := ⟨_, rfl⟩
      rw [← hac2] at HC HQ2 HN2 HS2
      obtain ⟨tk, ts, tn, ta, tl⟩ := tr
      simp only [tv, Tr.kind, Tr.name, Tr.n, Tr.place, Tr.parts] at d0 d1 d2 d3 d4 HC
      clear hac2 hIn hok hdp HQ HMD HSD HSZ HMA HNN HAC
      go_wp2_with fail
      refine HC.out.mono ?_
      rintro e w3 ⟨A3, c3, rfl, hA3, hb3⟩
      have hL3 := hLr.below hb3 hLr.lt
      have hbw3 := hbr.trans (hb3.mono hbs)
      have HA3 := Lib.hid hA3
      obtain ⟨m3, hm3⟩ : ∃ m3, m3 = acc2.length := ⟨_, rfl⟩
      rw [← hm3]
      have HM3 := Lib.hid hm3
      clear hA3 hb3 hLr hbr hbs HC c4 d0 d1 d2 d3 d4 hm3
      go_wp2_with fail
      go_roundw
      case rel => exact ⟨i + 1, acc2, A3, m3, c3, by omega, by go_num, rfl, HM3, HS2, HQ2, HN2, by omega, HA3, hL3, hbw3⟩
      case measure => simp [intOf]; omega
     ·go_wp2_with fail
      go_ret
      have h1 := HQ.out
      rw [List.drop_of_length_le (by omega), metL] at h1
      have h2 : acc = onceN l (metT (.node k s n a lt)) := h1
      exact ⟨A2, c2, by rw [← h2, ← HMA.out]; rfl, by rw [← h2]; exact HAC.out, hbr⟩
  ·have hd : decide (0 ≤ O) = false := decide_eq_false hO
   have HQ9 : Hid (onceN l (metL k n (fromN k n) (lt.drop (fromN k n))) = onceN l (metT (.node k s n a lt))) := Lib.hid (by
    rw [← HFR.out, HMT.out, onceN_app, if_neg hO]; rfl)
   go_enter Tryz.func115, Tryz.ntmps115
   go_wp2_with fail
   refine (HOWN.out _ hb0).mono ?_
   rintro e w1 ⟨rfl, hb1⟩
   have hb2 := hb0.trans (hb1.mono hb0.size)
   have hL2 := hL.below hb1 hL.lt
   have HA9 := Lib.hid (HAL0.out _ hb2)
   clear hb1
   have HF := Lib.hid (from5_any k n a s A m c w1 hn8)
   obtain ⟨⟨y0, y1, y2, y3, y4⟩, _⟩ := hL2.five
   go_wp2_with fail
   refine HF.out.mono ?_
   rintro e w8 ⟨rfl, hb8⟩
   have hbw := hb2.trans (hb8.mono hb2.size)
   have hLw := hL2.below hb8 hL2.lt
   have HA8 := Lib.hid (AIn.below (HA9.out) hb8 (Nat.le_refl _))
   obtain ⟨fr, hfr⟩ : ∃ fr, fr = fromN k n := ⟨_, rfl⟩
   have HQ8 : Hid (onceN (l) (metL k n fr (lt.drop fr)) = onceN l (metT (.node k s n a lt))) := by rw [hfr]; exact HQ9
   have hfm : fr ≤ m := by rw [hfr]; exact HFM.out
   have HFRO := Lib.hid hfr
   have HS8 : Hid ((l).length + sizeL (lt.drop fr) ≤ 10000) := Lib.hid (by
    have h1 := HML.out
    have h2 : sizeL (lt.drop fr) ≤ sizeL lt := sizeL_drop_le lt fr
    omega)
   rw [← hfr]
   clear hfr hb8 hL2 HF hb2 HA9 HQ9 y0 y1 y2 y3 y4
   go_wp2_with fail
   go_loopw [1, 5] (fun v x wr => ∃ (i : Nat) (acc : List (ByteArray × Int)) (A2 : Option Addr) (ma c2 : Nat), i ≤ m ∧ x = .int .i64 i ∧ v = .slice A2 ma c2 ∧ Hid (ma = acc.length) ∧ Hid (acc.length + sizeL (lt.drop i) ≤ 10000) ∧ Hid (onceN acc (metL k n i (lt.drop i)) = onceN l (metT (.node k s n a lt))) ∧ Hid (acc ≠ []) ∧ fr ≤ i ∧ Hid (AIn wr Any acc A2) ∧ Lies wr w.heap.size 49 #[.int .i64 k, .string s, .int .i64 n, .int .i64 a, .slice A m c] ∧ Below w.heap.size w wr) (fun _ x _ => m - (intOf x).toNat)
   case atStart => exact ⟨fr, l, (some ⟨gl, ol, none⟩), ml, cl, hfm, rfl, rfl, HML, HS8, HQ8, Lib.hid (by have h1 := HML.out; intro e; rw [e] at h1; have := HNE.out; simp at h1 <;> omega), Nat.le_refl _, HA8, hLw, hbw⟩
   case round =>
    clear hLw hbw HA8 HQ8 HS8
    obtain ⟨i, acc, A2, ma, c2, hi, rfl, rfl, HMA, HSZ, HQ, HNN, hfi, HAC, hLr, hbr⟩ := hrel
    have hbs := hbr.size
    have c4 := hLr.five.1.2.2.2.2
    by_cases hlt : i < m
    ·have hia : i < lt.length := by omega
     obtain ⟨g, o, A', c', ⟨hA, _⟩, d0, d1, d2, d3, d4, hIn⟩ := LIn.at_ lt (LIn.keep lt HI.out fun g j _ h => ⟨hbr.cell (p := ⟨g, j, none⟩) h, trivial⟩) i hia
     subst hA
     simp only [Nat.zero_add] at d0 d1 d2 d3 d4
     have hdp := depthL_mem lt (lt[i]'hia) (List.getElem_mem hia)
     have hok := okL_mem lt (lt[i]'hia) (List.getElem_mem hia) HOK.out
     have HSD := Lib.hid (sizeL_drop lt i hia)
     have HMD : Hid (metL k n i (lt.drop i) = metT (lt[i]'hia) ++ metL k n (i + 1) (lt.drop (i + 1))) := Lib.hid (by rw [List.drop_eq_getElem_cons hia, metL, if_neg (by rw [← HFRO.out]; omega)])
     obtain ⟨tr, hu⟩ : ∃ tr, tr = lt[i]'hia := ⟨_, rfl⟩
     rw [← hu] at d0 d1 d2 d3 d4 hIn hdp hok HSD HMD
     clear hu
     have HC := Lib.hid (ih tr A' c' acc A2 c2 wr (by omega) hok HNN.out (by have h1 := HSZ.out; rw [HSD.out] at h1; omega) hIn HAC.out)
     rw [← HMA.out] at HC
     have HQ2 : Hid (onceN (onceN acc (metT tr)) (metL k n (i + 1) (lt.drop (i + 1))) = onceN l (metT (.node k s n a lt))) := Lib.hid (by rw [← onceN_app, ← HMD.out]; exact HQ.out)
     have HN2 : Hid (onceN acc (metT tr) ≠ []) := Lib.hid (by
      have h1 := (onceN_len acc (metT tr)).1
      have h2 := HNN.out
      intro e
      rw [e] at h1
      exact h2 (List.eq_nil_of_length_eq_zero (by simpa using h1)))
     have HS2 : Hid ((onceN acc (metT tr)).length + sizeL (lt.drop (i + 1)) ≤ 10000) := Lib.hid (by
      have h1 := (onceN_len acc (metT tr)).2
      have h2 := metT_len tr
      have h3 := HSZ.out
      rw [HSD.out] at h3
      omega)
     obtain ⟨acc2, hac2⟩ : ∃ acc2, acc2 = onceN acc (metT tr) := ⟨_, rfl⟩
     rw [← hac2] at HC HQ2 HN2 HS2
     obtain ⟨tk, ts, tn, ta, tl⟩ := tr
     simp only [tv, Tr.kind, Tr.name, Tr.n, Tr.place, Tr.parts] at d0 d1 d2 d3 d4 HC
     clear hac2 hIn hok hdp HQ HMD HSD HSZ HMA HNN HAC
     go_wp2_with fail
     refine HC.out.mono ?_
     rintro e w3 ⟨A3, c3, rfl, hA3, hb3⟩
     have hL3 := hLr.below hb3 hLr.lt
     have hbw3 := hbr.trans (hb3.mono hbs)
     have HA3 := Lib.hid hA3
     obtain ⟨m3, hm3⟩ : ∃ m3, m3 = acc2.length := ⟨_, rfl⟩
     rw [← hm3]
     have HM3 := Lib.hid hm3
     clear hA3 hb3 hLr hbr hbs HC c4 d0 d1 d2 d3 d4 hm3
     go_wp2_with fail
     go_roundw
     case rel => exact ⟨i + 1, acc2, A3, m3, c3, by omega, by go_num, rfl, HM3, HS2, HQ2, HN2, by omega, HA3, hL3, hbw3⟩
     case measure => simp [intOf]; omega
    ·go_wp2_with fail
     go_ret
     have h1 := HQ.out
     rw [List.drop_of_length_le (by omega), metL] at h1
     have h2 : acc = onceN l (metT (.node k s n a lt)) := h1
     exact ⟨A2, c2, by rw [← h2, ← HMA.out]; rfl, by rw [← h2]; exact HAC.out, hbr⟩
theorem innerN_len (k n : Int) (s : ByteArray) (i : Nat) (l : List Tr) (b : List ByteArray) (h9 : l.length ≤ 9) (h0 : k = 8 → 0 ≤ n) (hn : k = 8 → n ≤ l.length) : (innerN k n s i l b).length ≤ b.length + 9 := by
 unfold innerN
 split
 ·simp
 ·split
  ·split <;> simp
  ·split
   ·rename_i h; have := varsN_len l n (h0 h) (hn h); simp only [List.length_append]; omega
   ·omega
set_option maxHeartbeats 16000000 in
theorem check5_any (AA : List (ByteArray × Int)) (Al : Option Addr) (d : Nat) : ∀ (t : Tr) (A : Option Addr) (c : Nat) (b ah : List ByteArray) (Ab : Option Addr) (cb : Nat) (Ah : Option Addr) (ch cl : Nat) (w : World), depthT t ≤ d → okT t → b.length + 9 * d ≤ 70000 → ah.length ≤ 10000 → TIn w Any t A → SIn w Any b Ab → (Ab = none → cb = 0) → SIn w Any ah Ah → AA.length ≤ 10000 → AIn w Any AA Al →
  Calls Tryz.prog 78 #[tv t A c, .slice Ab b.length cb, .slice Ah ah.length ch, .slice Al AA.length cl] w fun e w' => e = .returned (.tuple #[.int .i64 (badT AA b ah t).1, .int .i64 (badT AA b ah t).2]) ∧ Below w.heap.size w w' := by
 induction d with
 | zero => intro t A c b ah Ab cb Ah ch cl w h; cases t; rw [depthT] at h; omega
 | succ d ih =>
  intro t A c b ah Ab cb Ah ch cl w hd hok hbl hal hI hB hAb hAh haa hAl
  obtain ⟨k, s, n, a, l⟩ := t
  have hdL : depthL l ≤ d := by rw [depthT] at hd; omega
  rw [okT] at hok
  rw [TIn] at hI
  have HI := Lib.hid hI.2.2
  have HOK := Lib.hid hok.2
  have hn8 : k = 8 → 0 ≤ n := fun e => (hok.1.1 e).1
  have h9 : l.length ≤ 9 := hok.1.2.2.2.2.2.2
  have HFM0 : fromN k n ≤ l.length := by
   rw [fromN]
   split
   ·rename_i h; have := hok.1.1 h; omega
   ·omega
  have HSK : Hid (badL AA k n s l b 0 [] l = badL AA k n s l b (fromN k n) [] (l.drop (fromN k n))) := Lib.hid (by have := badL_skip AA k n s l b 0 (by omega) HFM0; simpa using this)
  show Calls Tryz.prog 78 #[.agg #[.int .i64 k, .string s, .int .i64 n, .int .i64 a, .slice A l.length (capF l.length c)], .slice Ab b.length cb, .slice Ah ah.length ch, .slice Al AA.length cl] w _
  generalize capF l.length c = c
  have h8m : k = 8 → 0 ≤ n ∧ n ≤ (l.length : Int) := fun e => by have := hok.1.1 e; omega
  obtain ⟨m, hm⟩ : ∃ m, m = l.length := ⟨_, rfl⟩
  obtain ⟨mb, hmb⟩ : ∃ m, m = b.length := ⟨_, rfl⟩
  obtain ⟨mh, hmh⟩ : ∃ m, m = ah.length := ⟨_, rfl⟩
  obtain ⟨ml, hml⟩ : ∃ m, m = AA.length := ⟨_, rfl⟩
  rw [← hm] at h8m ⊢
  rw [← hmb, ← hmh, ← hml]
  have HOWN0 := Lib.hid (fun W => own5_any k n a s A l m c W hm)
  obtain ⟨O, hOe⟩ : ∃ O, O = ownN k n l := ⟨_, rfl⟩
  rw [← hOe] at HOWN0
  have hm1 : m ≤ l.length := by omega
  have hm2 : l.length ≤ m := by omega
  have hm9 : m ≤ 9 := by omega
  have hmb9 : mb + 9 * (d + 1) ≤ 70000 := by omega
  have hmh9 : mh ≤ 10000 := by omega
  have hml9 : ml ≤ 10000 := by omega
  have HM := Lib.hid hm
  have HMB := Lib.hid hmb
  have HMH := Lib.hid hmh
  have HML := Lib.hid hml
  have HFM : Hid (fromN k n ≤ m) := Lib.hid (by omega)
  have HB := Lib.hid hB
  have HAB := Lib.hid hAb
  have HAH := Lib.hid hAh
  have HAL0 : Hid (∀ X, Below w.heap.size w X → AIn X Any AA Al) := Lib.hid fun X h => AIn.below hAl h (Nat.le_refl _)
  have HOWN : Hid (∀ X, Below w.heap.size w X → Calls Tryz.prog 110 #[.agg #[.int .i64 k, .string s, .int .i64 n, .int .i64 a, .slice A m c]] X fun e w' => e = .returned (.int .i64 O) ∧ Below X.heap.size X w') := Lib.hid fun X _ => HOWN0.out X
  obtain ⟨q, hq⟩ : ∃ q, q = ofN AA s := ⟨_, rfl⟩
  have HOF0 := Lib.hid (fun X (hX : AIn X Any AA Al) => of5_any AA s Al ml cl X hml (by omega) hX)
  rw [← hq] at HOF0
  have HIN0 := fun (L : List ByteArray) (z : ByteArray) (B : Option Addr) (bm bc : Nat) => Lib.hid (fun (X : World) (h1 : bm = L.length) (h2 : bm ≤ 100000) (hX : SIn X Any L B) => in5_any L z B bm bc X h1 h2 hX)
  obtain ⟨i0, hi0', hz0, hz1, hz2⟩ := info_parts infoS
  have hb00 : Below w.heap.size w (w.alloc (.cells #[.int .i64 k, .string s, .int .i64 n, .int .i64 a, .slice A m c] 49)) := (Below.refl _ w).alloc (Nat.le_refl _) _
  have hL00 := Lies.new w 49 #[.int .i64 k, .string s, .int .i64 n, .int .i64 a, .slice A m c]
  clear hm hmb hmh hml hd hok hI hAl hB hAb hAh hbl hal haa HOWN0 HFM0 h9
  go_enter Tryz.func78, Tryz.ntmps78
  go_upto_region 1 with fail
  have hb := hb00
  have hL := hL00
  clear hb00 hL00
  generalize w.alloc (.cells #[.int .i64 k, .string s, .int .i64 n, .int .i64 a, .slice A m c] 49) = W0 at *
  obtain ⟨⟨x0, x1, x2, x3, x4⟩, _⟩ := hL.five
  go_cut [23] from 14 (fun v wx => ∃ bb : Bool, v = .bool bb ∧ Hid (bb = true ↔ (k = 1 ∧ inN b s = false)) ∧ Lies wx w.heap.size 49 #[.int .i64 k, .string s, .int .i64 n, .int .i64 a, .slice A m c] ∧ Below w.heap.size w wx)
  case first =>
   by_cases hk : k = 1
   ·have e1 : (k == 1) = true := by simpa using hk
    have HK := Lib.hid hk
    clear hk
    have HIA2 := (HIN0 b s Ab mb cb).out W0 HMB.out (by omega) (SIn.below HB.out hb (Nat.le_refl _))
    cases hib : inN b s with
    | false =>
     rw [hib] at HIA2
     replace HIA2 := Lib.hid HIA2
     replace hib := Lib.hid hib
     go_wp2_with fail
     refine HIA2.out.mono ?_
     rintro e w4 ⟨rfl, hb4⟩
     replace hb := hb.trans (hb4.mono hb.size)
     replace hL := hL.below hb4 hL.lt
     clear x0 x1 x2 x3 x4 hb4
     go_wp2_with fail
     go_meet
     exact ⟨true, rfl, Lib.hid (⟨fun _ => ⟨HK.out, hib.out⟩, fun _ => rfl⟩), hL, hb⟩
    | true =>
     rw [hib] at HIA2
     replace HIA2 := Lib.hid HIA2
     replace hib := Lib.hid hib
     go_wp2_with fail
     refine HIA2.out.mono ?_
     rintro e w4 ⟨rfl, hb4⟩
     replace hb := hb.trans (hb4.mono hb.size)
     replace hL := hL.below hb4 hL.lt
     clear x0 x1 x2 x3 x4 hb4
     go_wp2_with fail
     go_meet
     exact ⟨false, rfl, Lib.hid (⟨fun h => Bool.noConfusion h, fun h => by rw [hib.out] at h; cases h.2⟩), hL, hb⟩
   ·have e1 : (k == 1) = false := by simpa using hk
    have HK := Lib.hid hk
    clear hk
    go_wp2_with fail
    go_meet
    exact ⟨false, rfl, Lib.hid (⟨fun h => Bool.noConfusion h, fun h => absurd h.1 HK.out⟩), hL, hb⟩
  case rest =>
   clear x0 x1 x2 x3 x4 hL hb
   obtain ⟨bb, rfl, HBB, hL, hb⟩ := hcut
   obtain ⟨⟨x0, x1, x2, x3, x4⟩, _⟩ := hL.five
   cases bb with
   | true =>
    have HP : Hid (k = 1 ∧ inN b s = false) := Lib.hid (HBB.out.1 rfl)
    have HR : Hid (badT AA b ah (.node k s n a l) = (a, 50)) := Lib.hid (by rw [badT, if_pos HP.out])
    go_wp2_with fail
    go_ret2
    exact ⟨by show Ending.returned (.tuple #[.int .i64 a, .int .i64 50]) = _; rw [HR.out], hb⟩
   | false =>
    have HP : Hid (¬ (k = 1 ∧ inN b s = false)) := Lib.hid (fun h => by have := HBB.out.2 h; cases this)
    clear HBB
    have h1f := HP
    clear HP
    go_upto_region 3 with fail
    go_cut [37] from 26 (fun v wx => ∃ bb : Bool, v = .bool bb ∧ Hid (bb = true ↔ (0 ≤ ownN k n l ∧ ofN AA s ≠ ownN k n l)) ∧ Lies wx w.heap.size 49 #[.int .i64 k, .string s, .int .i64 n, .int .i64 a, .slice A m c] ∧ Below w.heap.size w wx)
    case first =>
     clear x0 x1 x2 x3 x4
     by_cases hO : 0 ≤ O
     ·have hd : decide (0 ≤ O) = true := decide_eq_true hO
      by_cases hqO : q = O
      ·have HPX : Hid (¬ (0 ≤ ownN k n l ∧ ofN AA s ≠ ownN k n l)) := Lib.hid (fun h => absurd (by rw [← hq, ← hOe]; exact hqO) h.2)
       have hne : (q != O) = false := by simpa using hqO
       clear hqO hq hOe
       have HSS : Hid (∀ V', Below wc.heap.size wc V' → (fun V' : World => (V'.cell? ⟨w.heap.size, 0, none⟩ = some (.int .i64 k) ∧ V'.cell? ⟨w.heap.size, 1, none⟩ = some (.string s) ∧ V'.cell? ⟨w.heap.size, 2, none⟩ = some (.int .i64 n) ∧ V'.cell? ⟨w.heap.size, 3, none⟩ = some (.int .i64 a) ∧ V'.cell? ⟨w.heap.size, 4, none⟩ = some (.slice A m c))) V') := Lib.hid fun V' h =>
        ⟨(h.cell (p := ⟨w.heap.size, 0, none⟩) hL.lt).trans (hL.cell 0), (h.cell (p := ⟨w.heap.size, 1, none⟩) hL.lt).trans (hL.cell 1), (h.cell (p := ⟨w.heap.size, 2, none⟩) hL.lt).trans (hL.cell 2), (h.cell (p := ⟨w.heap.size, 3, none⟩) hL.lt).trans (hL.cell 3), (h.cell (p := ⟨w.heap.size, 4, none⟩) hL.lt).trans (hL.cell 4)⟩
       replace HOWN : Hid (∀ X, Below wc.heap.size wc X → Calls Tryz.prog 110 #[.agg #[.int .i64 k, .string s, .int .i64 n, .int .i64 a, .slice A m c]] X fun e w' => e = .returned (.int .i64 O) ∧ Below X.heap.size X w') := Lib.hid fun X hX => HOWN.out X (hb.trans (hX.mono hb.size))
       have HOFC : Hid (∀ X, Below wc.heap.size wc X → Calls Tryz.prog 111 #[.slice Al ml cl, .string s] X fun e w' => e = .returned (.int .i64 q) ∧ Below X.heap.size X w') := Lib.hid fun X hX => HOF0.out X (HAL0.out X (hb.trans (hX.mono hb.size)))
       have hb_1 : Below wc.heap.size wc wc := Below.refl _ _
       refine wp_region_held_drew (S := (fun V' : World => (V'.cell? ⟨w.heap.size, 0, none⟩ = some (.int .i64 k) ∧ V'.cell? ⟨w.heap.size, 1, none⟩ = some (.string s) ∧ V'.cell? ⟨w.heap.size, 2, none⟩ = some (.int .i64 n) ∧ V'.cell? ⟨w.heap.size, 3, none⟩ = some (.int .i64 a) ∧ V'.cell? ⟨w.heap.size, 4, none⟩ = some (.slice A m c)))) rfl (HSS.out _ hb_1.drew) (fun hSs => ?_)
       change wpAnyH _ _ _ _ _ 12 (Array.replicate 12 false) _ _
       refine thA (i := 0) (oi := ⟨some 26, _, _, _, _, _⟩) (v := .agg #[.int .i64 k, .string s, .int .i64 n, .int .i64 a, .slice A m c]) hSs ?_
       try go_frame
       refine wpAnyH_ready (rs := [1]) (by kernel_rfl) (by simp) (AllReadyH.cons rfl (fun K hK => ?_) AllReadyH.nil)
       go_simp
       refine (HOWN.out _ (hb_1.drew) ).mono ?_
       rintro e u_2 ⟨rfl, hq_2⟩
       have hb_2 := (hb_1.drew).trans (hq_2.mono (hb_1.drew).size)
       refine hK.out _ _ (HSS.out _ hb_2) (fun hS_2 => ?_)
       clear hK K
       try go_frame
       refine thA (i := 2) (oi := ⟨some 28, _, _, _, _, _⟩) (v := .bool true) hS_2 ?_
       try go_frame
       refine thB (i := 3) (oi := ⟨some 29, _, _, _, _, _⟩) (v := .bool true) hS_2 ?_
       try go_frame
       refine thB (i := 4) (oi := ⟨some 30, _, _, _, _, _⟩) (v := .slice Al ml cl) hS_2 ?_
       try go_frame
       refine thA (i := 5) (oi := ⟨some 31, _, _, _, _, _⟩) (v := .pointer (some ⟨w.heap.size, 1, none⟩)) hS_2 ?_
       try go_frame
       refine thA (i := 6) (oi := ⟨some 32, _, _, _, _, _⟩) (v := .string s) hS_2 ?_
       try go_frame
       refine thA (i := 8) (oi := ⟨some 34, _, _, _, _, _⟩) (v := .agg #[.int .i64 k, .string s, .int .i64 n, .int .i64 a, .slice A m c]) hS_2 ?_
       try go_frame
       refine wpAnyH_ready (rs := [7]) (by kernel_rfl) (by simp) (AllReadyH.cons rfl (fun K hK => ?_) AllReadyH.nil)
       go_simp
       refine (HOFC.out _ hb_2 ).mono ?_
       rintro e u_3 ⟨rfl, hq_3⟩
       have hb_3 := hb_2.trans (hq_3.mono hb_2.size)
       refine hK.out _ _ (HSS.out _ hb_3) (fun hS_3 => ?_)
       clear hK K
       try go_frame
       refine wpAnyH_ready (rs := [9]) (by kernel_rfl) (by simp) (AllReadyH.cons rfl (fun K hK => ?_) AllReadyH.nil)
       go_simp
       refine (HOWN.out _ hb_3 ).mono ?_
       rintro e u_4 ⟨rfl, hq_4⟩
       have hb_4 := hb_3.trans (hq_4.mono hb_3.size)
       refine hK.out _ _ (HSS.out _ hb_4) (fun hS_4 => ?_)
       clear hK K
       try go_frame
       refine thA (i := 10) (oi := ⟨some 36, _, _, _, _, _⟩) (v := .bool false) hS_4 ?_
       try go_frame
       refine thB (i := 11) (oi := ⟨some 37, _, _, _, _, _⟩) (v := .bool false) hS_4 ?_
       try go_frame
       refine wpAnyH_done (by kernel_rfl) ?_ _
       have hb9 := hb.trans (hb_4.mono hb.size)
       have hL9 := hL.below hb_4 hL.lt
       generalize u_4 = V9 at *
       clear hS_4
       go_wp2_with fail
       go_meet
       exact ⟨false, rfl, Lib.hid (⟨fun h => Bool.noConfusion h, fun h => absurd h HPX.out⟩), hL9, hb9⟩
      ·have HPX : Hid (0 ≤ ownN k n l ∧ ofN AA s ≠ ownN k n l) := Lib.hid ⟨by rw [← hOe]; exact hO, by rw [← hq, ← hOe]; exact hqO⟩
       have hne : (q != O) = true := by simpa using hqO
       clear hqO hq hOe
       have HSS : Hid (∀ V', Below wc.heap.size wc V' → (fun V' : World => (V'.cell? ⟨w.heap.size, 0, none⟩ = some (.int .i64 k) ∧ V'.cell? ⟨w.heap.size, 1, none⟩ = some (.string s) ∧ V'.cell? ⟨w.heap.size, 2, none⟩ = some (.int .i64 n) ∧ V'.cell? ⟨w.heap.size, 3, none⟩ = some (.int .i64 a) ∧ V'.cell? ⟨w.heap.size, 4, none⟩ = some (.slice A m c))) V') := Lib.hid fun V' h =>
        ⟨(h.cell (p := ⟨w.heap.size, 0, none⟩) hL.lt).trans (hL.cell 0), (h.cell (p := ⟨w.heap.size, 1, none⟩) hL.lt).trans (hL.cell 1), (h.cell (p := ⟨w.heap.size, 2, none⟩) hL.lt).trans (hL.cell 2), (h.cell (p := ⟨w.heap.size, 3, none⟩) hL.lt).trans (hL.cell 3), (h.cell (p := ⟨w.heap.size, 4, none⟩) hL.lt).trans (hL.cell 4)⟩
       replace HOWN : Hid (∀ X, Below wc.heap.size wc X → Calls Tryz.prog 110 #[.agg #[.int .i64 k, .string s, .int .i64 n, .int .i64 a, .slice A m c]] X fun e w' => e = .returned (.int .i64 O) ∧ Below X.heap.size X w') := Lib.hid fun X hX => HOWN.out X (hb.trans (hX.mono hb.size))
       have HOFC : Hid (∀ X, Below wc.heap.size wc X → Calls Tryz.prog 111 #[.slice Al ml cl, .string s] X fun e w' => e = .returned (.int .i64 q) ∧ Below X.heap.size X w') := Lib.hid fun X hX => HOF0.out X (HAL0.out X (hb.trans (hX.mono hb.size)))
       have hb_1 : Below wc.heap.size wc wc := Below.refl _ _
       refine wp_region_held_drew (S := (fun V' : World => (V'.cell? ⟨w.heap.size, 0, none⟩ = some (.int .i64 k) ∧ V'.cell? ⟨w.heap.size, 1, none⟩ = some (.string s) ∧ V'.cell? ⟨w.heap.size, 2, none⟩ = some (.int .i64 n) ∧ V'.cell? ⟨w.heap.size, 3, none⟩ = some (.int .i64 a) ∧ V'.cell? ⟨w.heap.size, 4, none⟩ = some (.slice A m c)))) rfl (HSS.out _ hb_1.drew) (fun hSs => ?_)
       change wpAnyH _ _ _ _ _ 12 (Array.replicate 12 false) _ _
       refine thA (i := 0) (oi := ⟨some 26, _, _, _, _, _⟩) (v := .agg #[.int .i64 k, .string s, .int .i64 n, .int .i64 a, .slice A m c]) hSs ?_
       try go_frame
       refine wpAnyH_ready (rs := [1]) (by kernel_rfl) (by simp) (AllReadyH.cons rfl (fun K hK => ?_) AllReadyH.nil)
       go_simp
       refine (HOWN.out _ (hb_1.drew) ).mono ?_
       rintro e u_2 ⟨rfl, hq_2⟩
       have hb_2 := (hb_1.drew).trans (hq_2.mono (hb_1.drew).size)
       refine hK.out _ _ (HSS.out _ hb_2) (fun hS_2 => ?_)
       clear hK K
       try go_frame
       refine thA (i := 2) (oi := ⟨some 28, _, _, _, _, _⟩) (v := .bool true) hS_2 ?_
       try go_frame
       refine thB (i := 3) (oi := ⟨some 29, _, _, _, _, _⟩) (v := .bool true) hS_2 ?_
       try go_frame
       refine thB (i := 4) (oi := ⟨some 30, _, _, _, _, _⟩) (v := .slice Al ml cl) hS_2 ?_
       try go_frame
       refine thA (i := 5) (oi := ⟨some 31, _, _, _, _, _⟩) (v := .pointer (some ⟨w.heap.size, 1, none⟩)) hS_2 ?_
       try go_frame
       refine thA (i := 6) (oi := ⟨some 32, _, _, _, _, _⟩) (v := .string s) hS_2 ?_
       try go_frame
       refine thA (i := 8) (oi := ⟨some 34, _, _, _, _, _⟩) (v := .agg #[.int .i64 k, .string s, .int .i64 n, .int .i64 a, .slice A m c]) hS_2 ?_
       try go_frame
       refine wpAnyH_ready (rs := [7]) (by kernel_rfl) (by simp) (AllReadyH.cons rfl (fun K hK => ?_) AllReadyH.nil)
       go_simp
       refine (HOFC.out _ hb_2 ).mono ?_
       rintro e u_3 ⟨rfl, hq_3⟩
       have hb_3 := hb_2.trans (hq_3.mono hb_2.size)
       refine hK.out _ _ (HSS.out _ hb_3) (fun hS_3 => ?_)
       clear hK K
       try go_frame
       refine wpAnyH_ready (rs := [9]) (by kernel_rfl) (by simp) (AllReadyH.cons rfl (fun K hK => ?_) AllReadyH.nil)
       go_simp
       refine (HOWN.out _ hb_3 ).mono ?_
       rintro e u_4 ⟨rfl, hq_4⟩
       have hb_4 := hb_3.trans (hq_4.mono hb_3.size)
       refine hK.out _ _ (HSS.out _ hb_4) (fun hS_4 => ?_)
       clear hK K
       try go_frame
       refine thA (i := 10) (oi := ⟨some 36, _, _, _, _, _⟩) (v := .bool true) hS_4 ?_
       try go_frame
       refine thB (i := 11) (oi := ⟨some 37, _, _, _, _, _⟩) (v := .bool true) hS_4 ?_
       try go_frame
       refine wpAnyH_done (by kernel_rfl) ?_ _
       have hb9 := hb.trans (hb_4.mono hb.size)
       have hL9 := hL.below hb_4 hL.lt
       generalize u_4 = V9 at *
       clear hS_4
       go_wp2_with fail
       go_meet
       exact ⟨true, rfl, Lib.hid (⟨fun _ => HPX.out, fun _ => rfl⟩), hL9, hb9⟩
     ·have hd : decide (0 ≤ O) = false := decide_eq_false hO
      have HPX : Hid (¬ (0 ≤ ownN k n l ∧ ofN AA s ≠ ownN k n l)) := Lib.hid (fun h => by rw [← hOe] at h; omega)
      clear hq hOe
      have HSS : Hid (∀ V', Below wc.heap.size wc V' → (fun V' : World => (V'.cell? ⟨w.heap.size, 0, none⟩ = some (.int .i64 k) ∧ V'.cell? ⟨w.heap.size, 1, none⟩ = some (.string s) ∧ V'.cell? ⟨w.heap.size, 2, none⟩ = some (.int .i64 n) ∧ V'.cell? ⟨w.heap.size, 3, none⟩ = some (.int .i64 a) ∧ V'.cell? ⟨w.heap.size, 4, none⟩ = some (.slice A m c))) V') := Lib.hid fun V' h =>
       ⟨(h.cell (p := ⟨w.heap.size, 0, none⟩) hL.lt).trans (hL.cell 0), (h.cell (p := ⟨w.heap.size, 1, none⟩) hL.lt).trans (hL.cell 1), (h.cell (p := ⟨w.heap.size, 2, none⟩) hL.lt).trans (hL.cell 2), (h.cell (p := ⟨w.heap.size, 3, none⟩) hL.lt).trans (hL.cell 3), (h.cell (p := ⟨w.heap.size, 4, none⟩) hL.lt).trans (hL.cell 4)⟩
      replace HOWN : Hid (∀ X, Below wc.heap.size wc X → Calls Tryz.prog 110 #[.agg #[.int .i64 k, .string s, .int .i64 n, .int .i64 a, .slice A m c]] X fun e w' => e = .returned (.int .i64 O) ∧ Below X.heap.size X w') := Lib.hid fun X hX => HOWN.out X (hb.trans (hX.mono hb.size))
      have HOFC : Hid (∀ X, Below wc.heap.size wc X → Calls Tryz.prog 111 #[.slice Al ml cl, .string s] X fun e w' => e = .returned (.int .i64 q) ∧ Below X.heap.size X w') := Lib.hid fun X hX => HOF0.out X (HAL0.out X (hb.trans (hX.mono hb.size)))
      have hb_1 : Below wc.heap.size wc wc := Below.refl _ _
      refine wp_region_held_drew (S := (fun V' : World => (V'.cell? ⟨w.heap.size, 0, none⟩ = some (.int .i64 k) ∧ V'.cell? ⟨w.heap.size, 1, none⟩ = some (.string s) ∧ V'.cell? ⟨w.heap.size, 2, none⟩ = some (.int .i64 n) ∧ V'.cell? ⟨w.heap.size, 3, none⟩ = some (.int .i64 a) ∧ V'.cell? ⟨w.heap.size, 4, none⟩ = some (.slice A m c)))) rfl (HSS.out _ hb_1.drew) (fun hSs => ?_)
      change wpAnyH _ _ _ _ _ 12 (Array.replicate 12 false) _ _
      refine thA (i := 0) (oi := ⟨some 26, _, _, _, _, _⟩) (v := .agg #[.int .i64 k, .string s, .int .i64 n, .int .i64 a, .slice A m c]) hSs ?_
      try go_frame
      refine wpAnyH_ready (rs := [1]) (by kernel_rfl) (by simp) (AllReadyH.cons rfl (fun K hK => ?_) AllReadyH.nil)
      go_simp
      refine (HOWN.out _ (hb_1.drew) ).mono ?_
      rintro e u_2 ⟨rfl, hq_2⟩
      have hb_2 := (hb_1.drew).trans (hq_2.mono (hb_1.drew).size)
      refine hK.out _ _ (HSS.out _ hb_2) (fun hS_2 => ?_)
      clear hK K
      try go_frame
      refine thA (i := 2) (oi := ⟨some 28, _, _, _, _, _⟩) (v := .bool false) hS_2 ?_
      try go_frame
      refine thB (i := 3) (oi := ⟨some 29, _, _, _, _, _⟩) (v := .bool false) hS_2 ?_
      try go_frame
      refine wpAnyH_take (i := 4) (oi := ⟨some 30, _, _, _, _, _⟩) (v := undef) rfl (by kernel_rfl) (by kernel_rfl) (by kernel_rfl) (fun _ _ _ h => h) (.inr ⟨by kernel_rfl, rfl⟩) hS_2 ?_
      try go_frame
      refine wpAnyH_take (i := 5) (oi := ⟨some 31, _, _, _, _, _⟩) (v := undef) rfl (by kernel_rfl) (by kernel_rfl) (by kernel_rfl) (fun _ _ _ h => h) (.inr ⟨by kernel_rfl, rfl⟩) hS_2 ?_
      try go_frame
      refine wpAnyH_take (i := 6) (oi := ⟨some 32, _, _, _, _, _⟩) (v := undef) rfl (by kernel_rfl) (by kernel_rfl) (by kernel_rfl) (fun _ _ _ h => h) (.inr ⟨by kernel_rfl, rfl⟩) hS_2 ?_
      try go_frame
      refine wpAnyH_take (i := 7) (oi := ⟨some 33, _, _, _, _, _⟩) (v := undef) rfl (by kernel_rfl) (by kernel_rfl) (by kernel_rfl) (fun _ _ _ h => h) (.inr ⟨by kernel_rfl, rfl⟩) hS_2 ?_
      try go_frame
      refine wpAnyH_take (i := 8) (oi := ⟨some 34, _, _, _, _, _⟩) (v := undef) rfl (by kernel_rfl) (by kernel_rfl) (by kernel_rfl) (fun _ _ _ h => h) (.inr ⟨by kernel_rfl, rfl⟩) hS_2 ?_
      try go_frame
      refine wpAnyH_take (i := 9) (oi := ⟨some 35, _, _, _, _, _⟩) (v := undef) rfl (by kernel_rfl) (by kernel_rfl) (by kernel_rfl) (fun _ _ _ h => h) (.inr ⟨by kernel_rfl, rfl⟩) hS_2 ?_
      try go_frame
      refine wpAnyH_take (i := 10) (oi := ⟨some 36, _, _, _, _, _⟩) (v := undef) rfl (by kernel_rfl) (by kernel_rfl) (by kernel_rfl) (fun _ _ _ h => h) (.inr ⟨by kernel_rfl, rfl⟩) hS_2 ?_
      try go_frame
      refine thB (i := 11) (oi := ⟨some 37, _, _, _, _, _⟩) (v := .bool false) hS_2 ?_
      try go_frame
      refine wpAnyH_done (by kernel_rfl) ?_ _
      have hb9 := hb.trans (hb_2.mono hb.size)
      have hL9 := hL.below hb_2 hL.lt
      generalize u_2 = V9 at *
      clear hS_2
      go_wp2_with fail
      go_meet
      exact ⟨false, rfl, Lib.hid (⟨fun h => Bool.noConfusion h, fun h => absurd h HPX.out⟩), hL9, hb9⟩
    case rest =>
     clear x0 x1 x2 x3 x4 hL hb
     obtain ⟨bb, rfl, HBB, hL, hb⟩ := hcut
     obtain ⟨⟨x0, x1, x2, x3, x4⟩, _⟩ := hL.five
     cases bb with
     | true =>
      have HP : Hid (0 ≤ ownN k n l ∧ ofN AA s ≠ ownN k n l) := Lib.hid (HBB.out.1 rfl)
      have HR : Hid (badT AA b ah (.node k s n a l) = (a, 51)) := Lib.hid (by rw [badT, if_neg h1f.out, if_pos HP.out])
      go_wp2_with fail
      go_ret2
      exact ⟨by show Ending.returned (.tuple #[.int .i64 a, .int .i64 51]) = _; rw [HR.out], hb⟩
     | false =>
      have HP : Hid (¬ (0 ≤ ownN k n l ∧ ofN AA s ≠ ownN k n l)) := Lib.hid (fun h => by have := HBB.out.2 h; cases this)
      clear HBB
      have hnf := HP
      clear HP
      go_upto_region 5 with fail
      go_cut [52] from 40 (fun v wx => ∃ bb : Bool, v = .bool bb ∧ Hid (bb = true ↔ (k = 8 ∧ (twiceN (varsN n l) = true ∨ inN ah s = true))) ∧ Lies wx w.heap.size 49 #[.int .i64 k, .string s, .int .i64 n, .int .i64 a, .slice A m c] ∧ Below w.heap.size w wx)
      case first =>
       by_cases hk : k = 8
       ·have e8 : (k == 8) = true := by simpa using hk
        have HTW := Lib.hid (twice5_any k n a s l A m c wc HM.out (by omega) (h8m hk).1 (h8m hk).2 (LIn.keep l HI.out fun g j _ h => ⟨hb.cell (p := ⟨g, j, none⟩) h, trivial⟩))
        have HK := Lib.hid hk
        clear hk
        cases htw : twiceN (varsN n l) with
        | true =>
         rw [htw] at HTW
         replace htw := Lib.hid htw
         go_wp2_with fail
         refine HTW.out.mono ?_
         rintro e w4 ⟨rfl, hb4⟩
         replace hb := hb.trans (hb4.mono hb.size)
         replace hL := hL.below hb4 hL.lt
         clear x0 x1 x2 x3 x4 hb4
         go_wp2_with fail
         go_meet
         exact ⟨true, rfl, Lib.hid (⟨fun _ => ⟨HK.out, .inl htw.out⟩, fun _ => rfl⟩), hL, hb⟩
        | false =>
         rw [htw] at HTW
         replace htw := Lib.hid htw
         have HIA := HIN0 ah s Ah mh ch
         cases hia : inN ah s with
         | true =>
          go_wp2_with fail
          refine HTW.out.mono ?_
          rintro e w4 ⟨rfl, hb4⟩
          replace hb := hb.trans (hb4.mono hb.size)
          replace hL := hL.below hb4 hL.lt
          clear x0 x1 x2 x3 x4 hb4
          obtain ⟨⟨x0, x1, x2, x3, x4⟩, _⟩ := hL.five
          have HIA2 := HIA.out w4 HMH.out (by omega) (SIn.below HAH.out hb (Nat.le_refl _))
          rw [hia] at HIA2
          replace HIA2 := Lib.hid HIA2
          replace hia := Lib.hid hia
          clear HIA
          go_wp2_with fail
          refine HIA2.out.mono ?_
          rintro e w6 ⟨rfl, hb4⟩
          replace hb := hb.trans (hb4.mono hb.size)
          replace hL := hL.below hb4 hL.lt
          clear x0 x1 x2 x3 x4 hb4
          go_wp2_with fail
          go_meet
          exact ⟨true, rfl, Lib.hid (⟨fun _ => ⟨HK.out, .inr hia.out⟩, fun _ => rfl⟩), hL, hb⟩
         | false =>
          go_wp2_with fail
          refine HTW.out.mono ?_
          rintro e w4 ⟨rfl, hb4⟩
          replace hb := hb.trans (hb4.mono hb.size)
          replace hL := hL.below hb4 hL.lt
          clear x0 x1 x2 x3 x4 hb4
          obtain ⟨⟨x0, x1, x2, x3, x4⟩, _⟩ := hL.five
          have HIA2 := HIA.out w4 HMH.out (by omega) (SIn.below HAH.out hb (Nat.le_refl _))
          rw [hia] at HIA2
          replace HIA2 := Lib.hid HIA2
          replace hia := Lib.hid hia
          clear HIA
          go_wp2_with fail
          refine HIA2.out.mono ?_
          rintro e w6 ⟨rfl, hb4⟩
          replace hb := hb.trans (hb4.mono hb.size)
          replace hL := hL.below hb4 hL.lt
          clear x0 x1 x2 x3 x4 hb4
          go_wp2_with fail
          go_meet
          exact ⟨false, rfl, Lib.hid (⟨fun h => Bool.noConfusion h, fun h => by rcases h.2 with h | h; rw [htw.out] at h; cases h; rw [hia.out] at h; cases h⟩), hL, hb⟩
       ·have e8 : (k == 8) = false := by simpa using hk
        have HK := Lib.hid hk
        clear hk
        go_wp2_with fail
        go_meet
        exact ⟨false, rfl, Lib.hid (⟨fun h => Bool.noConfusion h, fun h => absurd h.1 HK.out⟩), hL, hb⟩
      case rest =>
       clear x0 x1 x2 x3 x4 hL hb
       obtain ⟨bb, rfl, HBB, hL, hb⟩ := hcut
       obtain ⟨⟨x0, x1, x2, x3, x4⟩, _⟩ := hL.five
       cases bb with
       | true =>
        have HP : Hid (k = 8 ∧ (twiceN (varsN n l) = true ∨ inN ah s = true)) := Lib.hid (HBB.out.1 rfl)
        have HR : Hid (badT AA b ah (.node k s n a l) = (a, 52)) := Lib.hid (by rw [badT, if_neg h1f.out, if_neg hnf.out, if_pos HP.out])
        go_wp2_with fail
        go_ret2
        exact ⟨by show Ending.returned (.tuple #[.int .i64 a, .int .i64 52]) = _; rw [HR.out], hb⟩
       | false =>
        have HP : Hid (¬ (k = 8 ∧ (twiceN (varsN n l) = true ∨ inN ah s = true))) := Lib.hid (fun h => by have := HBB.out.2 h; cases this)
        clear HBB
        have HBT : Hid (badL AA k n s l b (fromN k n) [] (l.drop (fromN k n)) = badT AA b ah (.node k s n a l)) := Lib.hid (by
         rw [← HSK.out, badT, if_neg h1f.out, if_neg hnf.out, if_neg HP.out])
        clear x0 x1 x2 x3 x4
        obtain ⟨⟨y0, y1, y2, y3, y4⟩, _⟩ := (hL.old (.cells #[] 9)).five
        go_wp2_with fail
        have hbS := hb.alloc hb.size (.cells #[] 9)
        have hLS := hL.old (.cells #[] 9)
        have hownS : (wc.alloc (.cells #[] 9)).ownsRow (w.heap.size + 1) 9 1 (.slice (some ⟨wc.heap.size, 0, none⟩) 0 0) 0 [] := World.ownsRow_made wc #[] 0 hL.lt (by simp [maxLen]) rfl
        refine (from5_any k n a s A m c _ hn8).mono ?_
        rintro e w8 ⟨rfl, hb8⟩
        have hbw := hbS.trans (hb8.mono hbS.size)
        have hLw := hLS.below hb8 hLS.lt
        have HOWw := Lib.hid (own_below hownS hb8 (Nat.le_refl _))
        have hnbS : wc.heap.size ≠ w.heap.size := by have := hL.lt; omega
        obtain ⟨fr, hfr⟩ : ∃ fr, fr = fromN k n := ⟨_, rfl⟩
        have HQ8 : Hid (badL AA k n s l b fr [] (l.drop fr) = badT AA b ah (.node k s n a l)) := by rw [hfr]; exact HBT
        have hfm : fr ≤ m := by rw [hfr]; exact HFM.out
        have HFRO := Lib.hid hfr
        rw [← hfr]
        generalize (some ⟨wc.heap.size, 0, none⟩ : Option Addr) = AS at *
        clear hfr hb8 hL hb y0 y1 y2 y3 y4 hbS hLS hownS
        go_wp2_with fail
        go_loopw [10, 11] (fun v x wr => ∃ (i : Nat) (nm : List ByteArray) (A2 : Option Addr) (m2 c2 : Nat), i ≤ m ∧ v = .slice A2 m2 c2 ∧ x = .int .i64 i ∧ fr ≤ i ∧ Hid (badL AA k n s l b i nm (l.drop i) = badT AA b ah (.node k s n a l)) ∧ Hid (wr.ownsRow (w.heap.size + 1) 9 1 (.slice A2 m2 c2) m2 (cellsS nm)) ∧ m2 ≤ i ∧ Lies wr w.heap.size 49 #[.int .i64 k, .string s, .int .i64 n, .int .i64 a, .slice A m c] ∧ Below w.heap.size w wr) (fun _ x _ => m - (intOf x).toNat)
        case atStart => exact ⟨fr, [], AS, 0, 0, hfm, rfl, rfl, Nat.le_refl _, HQ8, HOWw, by omega, hLw, hbw⟩
        case round =>
         clear hLw hbw HQ8 HOWw
         obtain ⟨i, nm, A2, m2, c2, hi, rfl, rfl, hfi, HQ, HOW, hm2i, hLr, hbr⟩ := hrel
         have hbs := hbr.size
         have c4 := hLr.five.1.2.2.2.2
         by_cases hlt : i < m
         ·have hia : i < l.length := by omega
          obtain ⟨g, o, A', c', ⟨hA, _⟩, d0, d1, d2, d3, d4, hIn⟩ := LIn.at_ l (LIn.keep l HI.out fun g j _ h => ⟨hbr.cell (p := ⟨g, j, none⟩) h, trivial⟩) i hia
          subst hA
          have hgw : g < w.heap.size := by obtain ⟨g0, o0, A0, c0, ⟨hA0, _⟩, hx0, _⟩ := LIn.at_ l HI.out i hia; cases hA0; exact cell_lt hx0
          simp only [Nat.zero_add] at d0 d1 d2 d3 d4
          have hdp := depthL_mem l (l[i]'hia) (List.getElem_mem hia)
          have hok := okL_mem l (l[i]'hia) (List.getElem_mem hia) HOK.out
          have HBD : Hid (badL AA k n s l b i nm (l.drop i) = if i < fromN k n then badL AA k n s l b (i + 1) nm (l.drop (i + 1)) else if (badT AA (innerN k n s i l b) nm (l[i]'hia)).2 ≠ 0 then badT AA (innerN k n s i l b) nm (l[i]'hia) else badL AA k n s l b (i + 1) (if k = 7 ∧ 0 < i then nm ++ [(l[i]'hia).name] else nm) (l.drop (i + 1))) := Lib.hid (by rw [List.drop_eq_getElem_cons hia, badL])
          obtain ⟨tr, hu⟩ : ∃ tr, tr = l[i]'hia := ⟨_, rfl⟩
          rw [← hu] at d0 d1 d2 d3 d4 hIn hdp hok HBD
          clear hu
          have hnm : SIn wr Any nm A2 := SIn.any (SIn.owned HOW.out)
          have hnl : m2 = nm.length := by have := HOW.out.1; rw [cellsS_len] at this; omega
          have hgr : g < wr.heap.size := by omega
          have HNBx : Hid (∀ e : Unit, True) := Lib.hid fun _ => trivial
          have HWI : Hid (∀ X, Below wr.heap.size wr X → Calls Tryz.prog 114 #[.agg #[.int .i64 k, .string s, .int .i64 n, .int .i64 a, .slice (some ⟨g, o, none⟩) m c], .int .i64 i, .slice Ab mb cb] X fun e w' => ∃ A c, e = .returned (.slice A (innerN k n s i l b).length c) ∧ Hid (SIn w' Any (innerN k n s i l b) A ∧ (A = none → c = 0)) ∧ Below X.heap.size X w') := Lib.hid fun X hX =>
           (within5_any k n a s l (some ⟨g, o, none⟩) m c i b Ab mb cb X HM.out (by omega) h8m HMB.out (by omega) (LIn.keep l HI.out fun g j _ h => ⟨(hbr.trans (hX.mono hbr.size)).cell (p := ⟨g, j, none⟩) h, trivial⟩) (SIn.below HB.out (hbr.trans (hX.mono hbr.size)) (Nat.le_refl _)) HAB.out).mono fun e w' h => by
            obtain ⟨A, c, h1, h2, h3, h4⟩ := h
            exact ⟨A, c, h1, Lib.hid ⟨h2, h3⟩, h4⟩
          have hil := innerN_len k n s i l b (by omega) (fun h => (h8m h).1) (fun h => by have := (h8m h).2; omega)
          have HCH : Hid (∀ X, Below wr.heap.size wr X → ∀ Ai ci, Hid (SIn X Any (innerN k n s i l b) Ai ∧ (Ai = none → ci = 0)) → Calls Tryz.prog 78 #[tv tr A' c', .slice Ai (innerN k n s i l b).length ci, .slice A2 m2 c2, .slice Al ml cl] X fun e w' => e = .returned (.tuple #[.int .i64 (badT AA (innerN k n s i l b) nm tr).1, .int .i64 (badT AA (innerN k n s i l b) nm tr).2]) ∧ Below X.heap.size X w') := Lib.hid fun X hX Ai ci hS => by
           have h1 := ih tr A' c' (innerN k n s i l b) nm Ai ci A2 c2 cl X (by omega) hok (by have := HMB.out; omega) (by omega) (TIn.below _ hIn hX (Nat.le_refl _)) hS.out.1 hS.out.2 (SIn.below hnm hX (Nat.le_refl _)) (by have := HML.out; omega) (HAL0.out X (hbr.trans (hX.mono hbr.size)))
           rw [← hnl, ← HML.out] at h1
           exact h1
          obtain ⟨mi, hmi⟩ : ∃ mi, mi = (innerN k n s i l b).length := ⟨_, rfl⟩
          rw [← hmi] at HWI HCH
          obtain ⟨LI, hLI⟩ : ∃ LI, LI = innerN k n s i l b := ⟨_, rfl⟩
          rw [← hLI] at HWI HCH HBD
          have HPB : Hid (badT AA LI nm tr = badT AA LI nm tr) := Lib.hid rfl
          obtain ⟨pp, hpp⟩ : ∃ pp, pp = badT AA LI nm tr := ⟨_, rfl⟩
          rw [← hpp] at HCH
          replace HPB := Lib.hid hpp.symm
          obtain ⟨p1, p2⟩ := pp
          obtain ⟨tk, ts, tn, ta, tl⟩ := tr
          simp only [tv, Tr.kind, Tr.name, Tr.n, Tr.place, Tr.parts] at d0 d1 d2 d3 d4 HCH HBD
          have HD1 : Hid (∀ X, Below w.heap.size w X → X.cell? ⟨g, o + i * 5 + 1, none⟩ = some (.string ts)) := Lib.hid fun X h => (h.cell (p := ⟨g, o + i * 5 + 1, none⟩) hgw).trans ((hbr.cell (p := ⟨g, o + i * 5 + 1, none⟩) hgw).symm.trans d1)
          have HSR : Hid (∀ V', Below wr.heap.size wr V' → (fun V' : World => (V'.cell? ⟨w.heap.size, 0, none⟩ = some (.int .i64 k) ∧ V'.cell? ⟨w.heap.size, 1, none⟩ = some (.string s) ∧ V'.cell? ⟨w.heap.size, 2, none⟩ = some (.int .i64 n) ∧ V'.cell? ⟨w.heap.size, 3, none⟩ = some (.int .i64 a) ∧ V'.cell? ⟨w.heap.size, 4, none⟩ = some (.slice (some ⟨g, o, none⟩) m c) ∧ V'.cell? ⟨g, o + i * 5, none⟩ = some (.int .i64 tk) ∧ V'.cell? ⟨g, o + i * 5 + 1, none⟩ = some (.string ts) ∧ V'.cell? ⟨g, o + i * 5 + 2, none⟩ = some (.int .i64 tn) ∧ V'.cell? ⟨g, o + i * 5 + 3, none⟩ = some (.int .i64 ta) ∧ V'.cell? ⟨g, o + i * 5 + 4, none⟩ = some (.slice A' tl.length (capF tl.length c')))) V') := Lib.hid fun V' h =>
           ⟨(h.cell (p := ⟨w.heap.size, 0, none⟩) hLr.lt).trans (hLr.cell 0), (h.cell (p := ⟨w.heap.size, 1, none⟩) hLr.lt).trans (hLr.cell 1), (h.cell (p := ⟨w.heap.size, 2, none⟩) hLr.lt).trans (hLr.cell 2), (h.cell (p := ⟨w.heap.size, 3, none⟩) hLr.lt).trans (hLr.cell 3), (h.cell (p := ⟨w.heap.size, 4, none⟩) hLr.lt).trans (hLr.cell 4), (h.cell (p := ⟨g, o + i * 5, none⟩) hgr).trans d0, (h.cell (p := ⟨g, o + i * 5 + 1, none⟩) hgr).trans d1, (h.cell (p := ⟨g, o + i * 5 + 2, none⟩) hgr).trans d2, (h.cell (p := ⟨g, o + i * 5 + 3, none⟩) hgr).trans d3, (h.cell (p := ⟨g, o + i * 5 + 4, none⟩) hgr).trans d4⟩
          have HNB : Hid (∀ q, (Value.slice A2 m2 c2).ownBlock = some q → q ≠ w.heap.size) := Lib.hid fun q h => by have := (HOW.out.lt q h).1; omega
          clear hpp hmi hLI hil hIn hok hdp hnl d0 d1 d2 d3 d4
          go_upto_region 11 with fail
          have hb_1 : Below wr.heap.size wr wr := Below.refl _ _
          refine wp_region_K (S := (fun V' : World => (V'.cell? ⟨w.heap.size, 0, none⟩ = some (.int .i64 k) ∧ V'.cell? ⟨w.heap.size, 1, none⟩ = some (.string s) ∧ V'.cell? ⟨w.heap.size, 2, none⟩ = some (.int .i64 n) ∧ V'.cell? ⟨w.heap.size, 3, none⟩ = some (.int .i64 a) ∧ V'.cell? ⟨w.heap.size, 4, none⟩ = some (.slice (some ⟨g, o, none⟩) m c) ∧ V'.cell? ⟨g, o + i * 5, none⟩ = some (.int .i64 tk) ∧ V'.cell? ⟨g, o + i * 5 + 1, none⟩ = some (.string ts) ∧ V'.cell? ⟨g, o + i * 5 + 2, none⟩ = some (.int .i64 tn) ∧ V'.cell? ⟨g, o + i * 5 + 3, none⟩ = some (.int .i64 ta) ∧ V'.cell? ⟨g, o + i * 5 + 4, none⟩ = some (.slice A' tl.length (capF tl.length c'))))) 16 rfl (HSR.out _ hb_1.drew) (fun hSs => ?_)
          change wpAnyK _ _ _ _ _ _ 17 (Array.replicate 17 false) _ _
          refine tkA (i := 0) (oi := ⟨some 66, _, _, _, _, _⟩) (v := .pointer (some ⟨w.heap.size, 4, none⟩)) hSs ?_
          try go_frame
          refine tkA (i := 1) (oi := ⟨some 67, _, _, _, _, _⟩) (v := .slice (some ⟨g, o, none⟩) m c) hSs ?_
          try go_frame
          refine tkB (i := 2) (oi := ⟨some 68, _, _, _, _, _⟩) (v := .int .i64 (i : Int)) hSs ?_
          try go_frame
          refine tkA (i := 3) (oi := ⟨some 69, _, _, _, _, _⟩) (v := .pointer (some ⟨g, o + i * 5, none⟩)) hSs ?_
          try go_frame
          refine tkA (i := 4) (oi := ⟨some 70, _, _, _, _, _⟩) (v := .agg #[.int .i64 tk, .string ts, .int .i64 tn, .int .i64 ta, .slice A' tl.length (capF tl.length c')]) hSs ?_
          try go_frame
          refine tkA (i := 5) (oi := ⟨some 71, _, _, _, _, _⟩) (v := .agg #[.int .i64 k, .string s, .int .i64 n, .int .i64 a, .slice (some ⟨g, o, none⟩) m c]) hSs ?_
          try go_frame
          refine tkB (i := 6) (oi := ⟨some 72, _, _, _, _, _⟩) (v := .int .i64 (i : Int)) hSs ?_
          try go_frame
          refine tkB (i := 7) (oi := ⟨some 73, _, _, _, _, _⟩) (v := .slice Ab mb cb) hSs ?_
          try go_frame
          refine tkB (i := 9) (oi := ⟨some 75, _, _, _, _, _⟩) (v := .slice A2 m2 c2) hSs ?_
          try go_frame
          refine tkB (i := 10) (oi := ⟨some 76, _, _, _, _, _⟩) (v := .slice Al ml cl) hSs ?_
          try go_frame
          refine wpAnyK_one  (i := 8) rfl rfl (by kernel_rfl) (fun K hK => ?_)
          go_simp
          refine (HWI.out _ (hb_1.drew) ).mono ?_
          rintro e u_2 ⟨A_2, c_2, rfl, hS9_2, hq_2⟩
          have hb_2 := (hb_1.drew).trans (hq_2.mono (hb_1.drew).size)
          refine hK.out _ _ (fun _ => HSR.out _ hb_2) (fun hS9 => ?_)
          have hS_2 := hS9 (by decide)
          clear hK K hS9
          try go_frame
          refine wpAnyK_one  (i := 11) rfl rfl (by kernel_rfl) (fun K hK => ?_)
          go_simp
          refine (HCH.out _ hb_2 A_2 c_2 hS9_2).mono ?_
          rintro e u_3 ⟨rfl, hq_3⟩
          have hb_3 := hb_2.trans (hq_3.mono hb_2.size)
          refine hK.out _ _ (fun _ => HSR.out _ hb_3) (fun hS9 => ?_)
          have hS_3 := hS9 (by decide)
          clear hK K hS9
          try go_frame
          refine tkB (i := 12) (oi := ⟨some 65, _, _, _, _, _⟩) (v := .tuple #[.int .i64 p1, .int .i64 p2]) hS_3 ?_
          try go_frame
          refine tkA (i := 13) (oi := ⟨some 78, _, _, _, _, _⟩) (v := .int .i64 p1) hS_3 ?_
          try go_frame
          refine tkA (i := 14) (oi := ⟨some 79, _, _, _, _, _⟩) (v := .int .i64 p2) hS_3 ?_
          try go_frame
          refine tkB (i := 15) (oi := ⟨some 12, _, _, _, _, _⟩) (v := .int .i64 p1) hS_3 ?_
          try go_frame
          refine wpAnyK_one  (i := 16) rfl rfl (by kernel_rfl) (fun K hK => ?_)
          go_simp
          refine hK.out _ _ (fun h => absurd rfl h) (fun _ => ?_)
          clear hK K
          try go_frame
          refine wpAnyK_done (by kernel_rfl) ?_ _
          have HO3 := Lib.hid (own_below HOW.out hb_3 (Nat.le_refl _))
          have hb3 := hbr.trans (hb_3.mono hbr.size)
          have hL3 := hLr.below hb_3 hLr.lt
          clear hnm
          generalize u_3 = V3 at *
          by_cases hp2 : p2 = 0
          ·have hp3 : (p2 == 0) = true := by simpa using hp2
           have hp4 : (p2 != 0) = false := by simpa using hp2
           by_cases h7 : k = 7 ∧ 0 < i
           ·obtain ⟨h7, hi0⟩ := h7
            have e7 : (k == 7) = true := by simpa using h7
            have hi1 : (0 : Int) < (i : Int) := by omega
            have HR : Hid (badL AA k n s l b (i + 1) (nm ++ [ts]) (l.drop (i + 1)) = badT AA b ah (.node k s n a l)) := Lib.hid (by
             have h1 := HQ.out
             rw [HBD.out, if_neg (by rw [← HFRO.out]; omega), HPB.out, if_neg (by simp [hp2]), if_pos ⟨h7, hi0⟩] at h1
             exact h1)
            obtain ⟨⟨x0, x1, x2, x3, x4⟩, _⟩ := hL3.five
            have d13 := HD1.out _ hb3
            clear h7
            subst hp2
            go_wp2_with (at_builtin; refine wpList_append_own _ rfl (.tmp 91) (.tmp 98) 34 rfl (w.heap.size + 1) 9 i0 (.string ⟨#[]⟩) 1 16 Tryz.underlying34 hi0' hz0 hz1 hz2 rfl (by decide) _ _ _ rfl (HO3.out.alloc _) ⟨V3.heap.size, 0, none⟩ 1 1 [.string ts] rfl rfl ?c1 ?c2 ?c3 ?c4 ?c5 ?_)
            case c2 => first | rfl | (intro u hu; simp at hu; subst hu; rfl)
            case c3 => unfold maxLen; omega
            case c4 => omega
            case c5 => have := hL3.lt; simp; omega
            intro v4 w4 hown4 hg4 _
            obtain ⟨A4, c4', rfl⟩ := own_slice hown4
            have hb4 : Below w.heap.size w w4 := ((hb3.alloc hb3.size _).grown hg4 (by have := hb3.size; simp; omega) (fun k hk => by have := (HO3.out.lt k hk).1; omega))
            have hb34 : w.heap.size < V3.heap.size := hL3.lt
            have hL4 : Lies w4 w.heap.size 49 #[.int .i64 k, .string s, .int .i64 n, .int .i64 a, .slice (some ⟨g, o, none⟩) m c] := (hL3.old _).grown hg4 (fun e => HNB.out _ e.symm rfl)
            have HO4 : w4.ownsRow (w.heap.size + 1) 9 1 (.slice A4 (m2 + 1) c4') (m2 + 1) (cellsS (nm ++ [ts])) := by
             have e : cellsS (nm ++ [ts]) = cellsS nm ++ [.string ts] := by simp [cellsS]
             rw [e]; exact hown4
            clear hown4 hg4 x0 x1 x2 x3 x4 d13
            go_wp2_with fail
            go_roundw
            case rel => exact ⟨i + 1, nm ++ [ts], A4, m2 + 1, c4', by omega, rfl, by go_num, by omega, HR, Lib.hid HO4, by omega, hL4, hb4⟩
            case measure => simp [intOf]; omega
           ·have HR : Hid (badL AA k n s l b (i + 1) nm (l.drop (i + 1)) = badT AA b ah (.node k s n a l)) := Lib.hid (by
             have h1 := HQ.out
             rw [HBD.out, if_neg (by rw [← HFRO.out]; omega), HPB.out, if_neg (by simp [hp2]), if_neg h7] at h1
             exact h1)
            obtain ⟨⟨x0, x1, x2, x3, x4⟩, _⟩ := hL3.five
            by_cases h7' : k = 7
            ·have e7 : (k == 7) = true := by simpa using h7'
             have hi1 : ¬ (0 : Int) < (i : Int) := fun h => h7 ⟨h7', by omega⟩
             clear h7 h7'
             subst hp2
             go_wp2_with fail
             go_roundw
             case rel => exact ⟨i + 1, nm, A2, m2, c2, by omega, rfl, by go_num, by omega, HR, HO3, by omega, hL3, hb3⟩
             case measure => simp [intOf]; omega
            ·have e7 : (k == 7) = false := by simpa using h7'
             clear h7 h7'
             subst hp2
             go_wp2_with fail
             go_roundw
             case rel => exact ⟨i + 1, nm, A2, m2, c2, by omega, rfl, by go_num, by omega, HR, HO3, by omega, hL3, hb3⟩
             case measure => simp [intOf]; omega
          ·have hp3 : (p2 == 0) = false := by simpa using hp2
           have hp4 : (p2 != 0) = true := by simpa using hp2
           have HR : Hid (badT AA b ah (.node k s n a l) = (p1, p2)) := Lib.hid (by
            rw [← HQ.out, HBD.out, if_neg (by rw [← HFRO.out]; omega), HPB.out, if_pos (by simpa using hp2)])
           go_wp2_with fail
           go_ret2
           exact ⟨by show Ending.returned (.tuple #[.int .i64 p1, .int .i64 p2]) = _; rw [HR.out], hb3⟩
         ·go_wp2_with fail
          go_ret2
          have h1 := HQ.out
          rw [List.drop_of_length_le (by omega), badL] at h1
          exact ⟨by show Ending.returned (.tuple #[.int .i64 0, .int .i64 0]) = _; rw [← h1], hbr⟩
theorem mayV_ok (t : Tr) (h : mayV t = true) : okT t := by
 have hE : mayRT t false = mayV t := by
  rw [may_eq]
  unfold mayV
  by_cases h : t.kind = 8 <;> simp [h]
 exact mayR_ok t false (by rw [hE, h])
set_option maxHeartbeats 4000000 in
theorem rCons_ok (t : Tr) (A : Option Addr) (c : Nat) (w : World) (hI : TIn w Any t A) (hm : mayV t = true) (hz : sizeT t ≤ 5000) :
  Calls Tryz.prog 79 #[tv t A c] w (AGive (consT t) w) := by
 have hok := mayV_ok t hm
 have HM := Lib.hid (fun W (h : TIn W Any t A) => rMay_any t A c W h)
 rw [hm] at HM
 have HC := Lib.hid (fun (Al : Option Addr) (cl : Nat) (W : World) (h : TIn W Any t A) (hA : AIn W Any heads5 Al) => cons5_any (depthT t) t A c heads5 Al cl W (Nat.le_refl _) hok (by decide) (by show 2 + sizeT t ≤ 10000; omega) h hA)
 obtain ⟨L, hL⟩ : ∃ L, L = onceN heads5 (metT t) := ⟨_, rfl⟩
 have HLE : Hid (consT t = L) := Lib.hid (by rw [hL]; rfl)
 rw [← hL] at HC
 have HI := Lib.hid hI
 clear hI hm hz hok hL
 obtain ⟨k, s, n, a, l⟩ := t
 simp only [tv, Tr.kind, Tr.name, Tr.n, Tr.place, Tr.parts] at HM HC
 show Calls Tryz.prog 79 #[.agg #[.int .i64 k, .string s, .int .i64 n, .int .i64 a, .slice A l.length (capF l.length c)]] w _
 generalize l.length = m at *
 generalize capF m c = c at *
 have hb0 : Below w.heap.size w (w.alloc (.cells #[.int .i64 k, .string s, .int .i64 n, .int .i64 a, .slice A m c] 49)) := (Below.refl _ w).alloc (Nat.le_refl _) _
 have hL0 := Lies.new w 49 #[.int .i64 k, .string s, .int .i64 n, .int .i64 a, .slice A m c]
 have HM2 := Lib.hid (HM.out _ (TIn.below _ HI.out hb0 (Nat.le_refl _)))
 go_enter Tryz.func79, Tryz.ntmps79
 go_wp2_with fail
 refine HM2.out.mono ?_
 rintro e w1 ⟨rfl, hb1⟩
 have hb2 := hb0.trans (hb1.mono hb0.size)
 have hL2 := hL0.below hb1 hL0.lt
 obtain ⟨⟨x0, x1, x2, x3, x4⟩, _⟩ := (hL2.old (.cells #[.string ⟨#[84, 114, 117, 101]⟩, .int .i64 0, .string ⟨#[70, 97, 108, 115, 101]⟩, .int .i64 0] 124)).five
 obtain ⟨⟨y0, y1, y2, y3, y4⟩, _⟩ := hL2.five
 have hb3 := hb2.alloc hb2.size (.cells #[.string ⟨#[84, 114, 117, 101]⟩, .int .i64 0, .string ⟨#[70, 97, 108, 115, 101]⟩, .int .i64 0] 124)
 have hLA := Lies.new w1 124 #[.string ⟨#[84, 114, 117, 101]⟩, .int .i64 0, .string ⟨#[70, 97, 108, 115, 101]⟩, .int .i64 0]
 have hAI : AIn (w1.alloc (.cells #[.string ⟨#[84, 114, 117, 101]⟩, .int .i64 0, .string ⟨#[70, 97, 108, 115, 101]⟩, .int .i64 0] 124)) Any heads5 (some ⟨w1.heap.size, 0, none⟩) := fun i hi => by
  have hi2 : i = 0 ∨ i = 1 := by have : i < 2 := hi; omega
  rcases hi2 with rfl | rfl
  ·exact ⟨w1.heap.size, 0, rfl, trivial, hLA.cell 0, hLA.cell 1⟩
  ·exact ⟨w1.heap.size, 0, rfl, trivial, hLA.cell 2, hLA.cell 3⟩
 have HC2 := Lib.hid (HC.out (some ⟨w1.heap.size, 0, none⟩) 2 _ (TIn.below _ HI.out hb3 (Nat.le_refl _)) hAI)
 have e2 : heads5.length = 2 := rfl
 rw [e2] at HC2
 clear hLA hAI HC HM HM2 hL0 hb0 hb1 e2
 go_wp2_with fail
 refine HC2.out.mono ?_
 rintro e w4 ⟨A4, c4, rfl, hA4, hb4⟩
 have hb5 := hb3.trans (hb4.mono hb3.size)
 have HA4 := Lib.hid hA4
 have HB5 := Lib.hid hb5
 clear hA4 hb4 hb5 hb3 hb2 HC2 hL2 x0 x1 x2 x3 x4 y0 y1 y2 y3 y4
 go_wp2_with fail
 go_ret
 rw [HLE.out]
 exact ⟨A4, c4, rfl, HA4.out, HB5.out⟩
theorem onceN_cons_len (t : Tr) : (consT t).length ≤ 2 + sizeT t := by
 have h1 := (onceN_len heads5 (metT t)).2
 have h2 := metT_len t
 have h3 : heads5.length = 2 := rfl
 show (onceN heads5 (metT t)).length ≤ _
 omega
set_option maxHeartbeats 4000000 in
theorem rCheck_ok (t : Tr) (A : Option Addr) (c : Nat) (w : World) (hI : TIn w Any t A) (hm : mayV t = true) (hz : sizeT t ≤ 5000) (hd : depthT t ≤ 5000) (hbad : badT (consT t) [] [] t = (0, 0)) :
  Calls Tryz.prog 51 #[tv t A c] w fun e w' => e = .returned (.tuple #[.int .i64 0, .int .i64 0]) ∧ Below w.heap.size w w' := by
 have hok := mayV_ok t hm
 have HM := Lib.hid (fun W (h : TIn W Any t A) => rMay_any t A c W h)
 rw [hm] at HM
 have hcl := onceN_cons_len t
 have HK := Lib.hid (fun W (h : TIn W Any t A) => rCons_ok t A c W h hm hz)
 have HC := Lib.hid (fun (Al : Option Addr) (cl : Nat) (W : World) (h : TIn W Any t A) (hA : AIn W Any (consT t) Al) => check5_any (consT t) Al (depthT t) t A c [] [] none 0 none 0 cl W (Nat.le_refl _) hok (by simp; omega) (by simp) h (SIn.nil _ _ _) (fun _ => rfl) (SIn.nil _ _ _) (by omega) hA)
 rw [hbad] at HC
 obtain ⟨L, hL⟩ : ∃ L, L = consT t := ⟨_, rfl⟩
 rw [← hL] at HC HK hcl
 have HI := Lib.hid hI
 clear hI hm hz hok hL hbad hd
 obtain ⟨k, s, n, a, l⟩ := t
 simp only [tv, Tr.kind, Tr.name, Tr.n, Tr.place, Tr.parts, List.length_nil] at HM HC HK
 show Calls Tryz.prog 51 #[.agg #[.int .i64 k, .string s, .int .i64 n, .int .i64 a, .slice A l.length (capF l.length c)]] w _
 generalize l.length = m at *
 generalize capF m c = c at *
 have hb0 : Below w.heap.size w (w.alloc (.cells #[.int .i64 k, .string s, .int .i64 n, .int .i64 a, .slice A m c] 49)) := (Below.refl _ w).alloc (Nat.le_refl _) _
 have hL0 := Lies.new w 49 #[.int .i64 k, .string s, .int .i64 n, .int .i64 a, .slice A m c]
 have HM2 := Lib.hid (HM.out _ (TIn.below _ HI.out hb0 (Nat.le_refl _)))
 go_enter Tryz.func51, Tryz.ntmps51
 go_wp2_with fail
 refine HM2.out.mono ?_
 rintro e w1 ⟨rfl, hb1⟩
 have hb2 := hb0.trans (hb1.mono hb0.size)
 have hL2 := hL0.below hb1 hL0.lt
 clear HM HM2 hL0 hb0 hb1
 obtain ⟨mL, hmL⟩ : ∃ q, q = L.length := ⟨_, rfl⟩
 have HSS : Hid (∀ V', Below w1.heap.size w1 V' → (V'.cell? ⟨w.heap.size, 0, none⟩ = some (.int .i64 k) ∧ V'.cell? ⟨w.heap.size, 1, none⟩ = some (.string s) ∧ V'.cell? ⟨w.heap.size, 2, none⟩ = some (.int .i64 n) ∧ V'.cell? ⟨w.heap.size, 3, none⟩ = some (.int .i64 a) ∧ V'.cell? ⟨w.heap.size, 4, none⟩ = some (.slice A m c))) := Lib.hid fun V' h =>
  ⟨(h.cell (p := ⟨w.heap.size, 0, none⟩) hL2.lt).trans (hL2.cell 0), (h.cell (p := ⟨w.heap.size, 1, none⟩) hL2.lt).trans (hL2.cell 1), (h.cell (p := ⟨w.heap.size, 2, none⟩) hL2.lt).trans (hL2.cell 2), (h.cell (p := ⟨w.heap.size, 3, none⟩) hL2.lt).trans (hL2.cell 3), (h.cell (p := ⟨w.heap.size, 4, none⟩) hL2.lt).trans (hL2.cell 4)⟩
 have HK2 : Hid (∀ X, Below w1.heap.size w1 X → Calls Tryz.prog 79 #[.agg #[.int .i64 k, .string s, .int .i64 n, .int .i64 a, .slice A m c]] X fun e w' => ∃ Al cl, e = .returned (.slice Al mL cl) ∧ Hid (AIn w' Any L Al) ∧ Below X.heap.size X w') := Lib.hid fun X hX =>
  (HK.out X (TIn.below _ HI.out (hb2.trans (hX.mono hb2.size)) (Nat.le_refl _))).mono fun e w' h => by
   obtain ⟨Al, cl, h1, h2, h3⟩ := h
   exact ⟨Al, cl, by rw [h1, hmL], Lib.hid h2, h3⟩
 have HC2 : Hid (∀ X, Below w1.heap.size w1 X → ∀ Al cl, Hid (AIn X Any L Al) → Calls Tryz.prog 78 #[.agg #[.int .i64 k, .string s, .int .i64 n, .int .i64 a, .slice A m c], .slice none 0 0, .slice none 0 0, .slice Al mL cl] X fun e w' => e = .returned (.tuple #[.int .i64 0, .int .i64 0]) ∧ Below X.heap.size X w') := Lib.hid fun X hX Al cl hA => by
  rw [hmL]; exact HC.out Al cl X (TIn.below _ HI.out (hb2.trans (hX.mono hb2.size)) (Nat.le_refl _)) hA.out
 clear HC HK hmL hL2
 go_upto_region 3 with fail
 have hb_1 : Below w1.heap.size w1 w1 := Below.refl _ _
 refine wp_region_K (S := (fun V' : World => (V'.cell? ⟨w.heap.size, 0, none⟩ = some (.int .i64 k) ∧ V'.cell? ⟨w.heap.size, 1, none⟩ = some (.string s) ∧ V'.cell? ⟨w.heap.size, 2, none⟩ = some (.int .i64 n) ∧ V'.cell? ⟨w.heap.size, 3, none⟩ = some (.int .i64 a) ∧ V'.cell? ⟨w.heap.size, 4, none⟩ = some (.slice A m c)))) 7 rfl (HSS.out _ hb_1.drew) (fun hSs => ?_)
 change wpAnyK _ _ _ _ _ _ 8 (Array.replicate 8 false) _ _
 refine tkA (i := 0) (oi := ⟨some 7, _, _, _, _, _⟩) (v := .agg #[.int .i64 k, .string s, .int .i64 n, .int .i64 a, .slice A m c]) hSs ?_
 try go_frame
 refine tkA (i := 1) (oi := ⟨some 8, _, _, _, _, _⟩) (v := .agg #[.int .i64 k, .string s, .int .i64 n, .int .i64 a, .slice A m c]) hSs ?_
 try go_frame
 refine wpAnyK_one  (i := 2) rfl rfl (by kernel_rfl) (fun K hK => ?_)
 go_simp
 refine (HK2.out _ (hb_1.drew) ).mono ?_
 rintro e u_2 ⟨A_2, c_2, rfl, hA_2, hq_2⟩
 have hb_2 := (hb_1.drew).trans (hq_2.mono (hb_1.drew).size)
 refine hK.out _ _ (fun _ => HSS.out _ hb_2) (fun hS9 => ?_)
 have hS_2 := hS9 (by decide)
 clear hK K hS9
 try go_frame
 refine wpAnyK_one  (i := 3) rfl rfl (by kernel_rfl) (fun K hK => ?_)
 go_simp
 refine (HC2.out _ hb_2 A_2 c_2 hA_2).mono ?_
 rintro e u_3 ⟨rfl, hq_3⟩
 have hb_3 := hb_2.trans (hq_3.mono hb_2.size)
 refine hK.out _ _ (fun _ => HSS.out _ hb_3) (fun hS9 => ?_)
 have hS_3 := hS9 (by decide)
 clear hK K hS9
 try go_frame
 refine tkA (i := 4) (oi := ⟨some 11, _, _, _, _, _⟩) (v := .int .i64 0) hS_3 ?_
 try go_frame
 refine tkA (i := 5) (oi := ⟨some 12, _, _, _, _, _⟩) (v := .int .i64 0) hS_3 ?_
 try go_frame
 refine tkB (i := 6) (oi := ⟨some 2, _, _, _, _, _⟩) (v := .int .i64 0) hS_3 ?_
 try go_frame
 refine wpAnyK_one  (i := 7) rfl rfl (by kernel_rfl) (fun K hK => ?_)
 go_simp
 refine hK.out _ _ (fun h => absurd rfl h) (fun _ => ?_)
 clear hK K
 try go_frame
 refine wpAnyK_done (by kernel_rfl) ?_ _
 have hb3 := hb2.trans (hb_3.mono hb2.size)
 clear hb_3 hb2
 go_wp2_with fail
 go_ret2
 exact ⟨rfl, hb3⟩
theorem res_core {fn : Func} {p q r : Tmp} (h : fn.results = #[.cell p 24, .tmp q, .tmp r]) {tmps : Array Value} {g : Nat} {a b c d x y : Value} {w : World} (hp : tmps.getD p undef = .pointer (some ⟨g, 0, none⟩)) (hq : tmps.getD q undef = x) (hr : tmps.getD r undef = y) (L : Lies w g 24 #[a, b, c, d]) :
  (results fn tmps).run Tryz.prog w = .ok (.tuple #[.agg #[a, b, c, d], x, y]) w := by
 have hl := run_loadVar_row (P := Tryz.prog) w g 24 24 #[a, b, c, d] (0, 0) _ L Tryz.underlying24 rfl (by kernel_rfl)
 have hp' : tmps[p]?.getD undef = .pointer (some ⟨g, 0, none⟩) := by simpa using hp
 have hq' : tmps[q]?.getD undef = x := by simpa using hq
 have hr' : tmps[r]?.getD undef = y := by simpa using hr
 simp only [results, h]
 simp [hp', hq', hr', asAddr, hl]
set_option maxHeartbeats 4000000 in
theorem rCore_ok (t : Tr) (A : Option Addr) (c : Nat) (w : World) (hI : TIn w Any t A) (hm : mayV t = true) (hz : sizeT t ≤ 5000) (hd : depthT t ≤ 5000) (hbad : badT (consT t) [] [] t = (0, 0)) :
  Calls Tryz.prog 32 #[tv t A c] w fun e w' => ∃ A c, e = .returned (.tuple #[ev (termT [] t) A c, .int .i64 0, .int .i64 0]) ∧ EIn w' (fun g => w.heap.size ≤ g) (termT [] t) A ∧ Below w.heap.size w w' := by
 have hok := mayV_ok t hm
 have HC := Lib.hid (fun W (h : TIn W Any t A) => rCheck_ok t A c W h hm hz hd hbad)
 have HT := Lib.hid (fun W (h : TIn W Any t A) => term7_any (depthT t) t A c [] none 0 0 W (Nat.le_refl _) hok rfl (by omega) h (SIn.nil _ _ _) (fun _ => rfl))
 obtain ⟨U, hU⟩ : ∃ U, U = termT [] t := ⟨_, rfl⟩
 rw [← hU] at HT ⊢
 have HI := Lib.hid hI
 clear hI hm hz hd hbad hok hU
 obtain ⟨k, s, n, a, l⟩ := t
 obtain ⟨uk, un, us, ul⟩ := U
 simp only [tv, Tr.kind, Tr.name, Tr.n, Tr.place, Tr.parts] at HC HT
 show Calls Tryz.prog 32 #[.agg #[.int .i64 k, .string s, .int .i64 n, .int .i64 a, .slice A l.length (capF l.length c)]] w _
 generalize l.length = m at *
 generalize capF m c = c at *
 have m_b : Below w.heap.size w ((w.alloc (.cells #[.int .i64 k, .string s, .int .i64 n, .int .i64 a, .slice A m c] 49)).alloc (.cells #[.int .i64 0, .int .i64 0, .string ⟨#[]⟩, .slice none 0 0] 24)) := ((Below.refl _ w).alloc (Nat.le_refl _) _).alloc (by simp) _
 have m_t : Lies ((w.alloc (.cells #[.int .i64 k, .string s, .int .i64 n, .int .i64 a, .slice A m c] 49)).alloc (.cells #[.int .i64 0, .int .i64 0, .string ⟨#[]⟩, .slice none 0 0] 24)) w.heap.size 49 #[.int .i64 k, .string s, .int .i64 n, .int .i64 a, .slice A m c] := (Lies.new w _ _).old _
 have m_z : Lies ((w.alloc (.cells #[.int .i64 k, .string s, .int .i64 n, .int .i64 a, .slice A m c] 49)).alloc (.cells #[.int .i64 0, .int .i64 0, .string ⟨#[]⟩, .slice none 0 0] 24)) (w.heap.size + 1) 24 #[.int .i64 0, .int .i64 0, .string ⟨#[]⟩, .slice none 0 0] := by simpa using Lies.new (w.alloc (.cells #[.int .i64 k, .string s, .int .i64 n, .int .i64 a, .slice A m c] 49)) 24 #[.int .i64 0, .int .i64 0, .string ⟨#[]⟩, .slice none 0 0]
 go_enter Tryz.func32, Tryz.ntmps32
 go_upto_region 1 with fail
 generalize ((w.alloc (.cells #[.int .i64 k, .string s, .int .i64 n, .int .i64 a, .slice A m c] 49)).alloc (.cells #[.int .i64 0, .int .i64 0, .string ⟨#[]⟩, .slice none 0 0] 24)) = W0 at *
 have HC2 := Lib.hid (HC.out W0 (TIn.below _ HI.out m_b (Nat.le_refl _)))
 obtain ⟨⟨x0, x1, x2, x3, x4⟩, _⟩ := m_t.five
 go_wp2_with fail
 refine HC2.out.mono ?_
 rintro e w1 ⟨rfl, hb1⟩
 have hb2 := m_b.trans (hb1.mono m_b.size)
 have t2 := m_t.below hb1 m_t.lt
 have z2 := m_z.below hb1 m_z.lt
 clear x0 x1 x2 x3 x4 HC HC2
 obtain ⟨⟨x0, x1, x2, x3, x4⟩, _⟩ := t2.five
 have HT2 := Lib.hid (HT.out w1 (TIn.below _ HI.out hb2 (Nat.le_refl _)))
 clear HT m_b m_t m_z hb1
 go_wp2_with fail
 refine HT2.out.mono ?_
 rintro e w3 ⟨A3, c3, rfl, hE3, hb3⟩
 have hb4 := hb2.trans (hb3.mono hb2.size)
 have z3 := z2.below hb3 z2.lt
 have hlt := z2.lt
 obtain ⟨⟨y0, y1, y2, y3⟩, f0, f1, f2, f3⟩ := z3.four
 simp only [ev, Te.kind, Te.n, Te.name, Te.parts]
 have HE := Lib.hid hE3
 clear hE3 hb3 HT2 t2 x0 x1 x2 x3 x4
 go_wp2_with fail
 refine bodyPost_ret (res_core (p := 2) (q := 3) (r := 4) Tryz.results32 rfl rfl rfl (z3.all _ _ _ _)) rfl ⟨A3, c3, rfl, ?_, Below.all hb4 (by omega) _ _ _ _⟩
 refine EIn.keep _ HE.out fun g j hg _ => ⟨?_, by have h9 : w1.heap.size ≤ g := hg; omega⟩
 have h9 : w1.heap.size ≤ g := hg
 have hne : ∀ q u, (⟨w.heap.size + 1, q, none⟩ : Addr) ≠ ⟨g, u, none⟩ := fun q u e => by injection e with e; omega
 rw [World.cell?_setCell_other _ _ _ _ (hne _ _), World.cell?_setCell_other _ _ _ _ (hne _ _), World.cell?_setCell_other _ _ _ _ (hne _ _), World.cell?_setCell_other _ _ _ _ (hne _ _)]
def ofT (s : List UInt8) : Option Te := match parseG s 150 with
 | .ok T => if mayV T = true ∧ sizeT T ≤ 5000 ∧ depthT T ≤ 5000 ∧ badT (consT T) [] [] T = (0, 0) then some (termT [] T) else none
 | .error _ => none
theorem ofT_some {s : List UInt8} {X : Te} (h : ofT s = some X) : ∃ T, parseG s 150 = .ok T ∧ mayV T = true ∧ sizeT T ≤ 5000 ∧ depthT T ≤ 5000 ∧ badT (consT T) [] [] T = (0, 0) ∧ termT [] T = X := by
 unfold ofT at h
 split at h
 ·rename_i T hT
  split at h
  ·rename_i hc
   exact ⟨T, hT, hc.1, hc.2.1, hc.2.2.1, hc.2.2.2, by injection h⟩
  ·cases h
 ·cases h
set_option maxHeartbeats 2000000 in
theorem of9_any (s : ByteArray) (X : Te) (w : World) (h : ofT s.data.toList = some X) : Calls Tryz.prog 19 #[.string s] w (GivesE X w) := by
 obtain ⟨T, hT, hm, hz, hd, hb, hX⟩ := ofT_some h
 subst hX
 have HP := Lib.hid (fun W => gparse_ok s 150 T W hT (by omega))
 have HC := Lib.hid (fun (A : Option Addr) (c : Nat) (W : World) (hI : TIn W Any T A) => rCore_ok T A c W hI hm hz hd hb)
 obtain ⟨X, hX⟩ : ∃ X, X = termT [] T := ⟨_, rfl⟩
 rw [← hX] at HC ⊢
 obtain ⟨tk, ts, tn, ta, tl⟩ := T
 obtain ⟨xk, xn, xs, xl⟩ := X
 clear h hT hm hz hd hb hX
 have hb0 : Below w.heap.size w (w.alloc (.cells #[.int .i64 0, .int .i64 0, .string ⟨#[]⟩, .slice none 0 0] 24)) := (Below.refl _ w).alloc (Nat.le_refl _) _
 have l0 := Lies.new w 24 #[.int .i64 0, .int .i64 0, .string ⟨#[]⟩, .slice none 0 0]
 go_enter Tryz.func19, Tryz.ntmps19
 go_wp2_with fail
 refine (HP.out _).mono ?_
 rintro e w2 ⟨hb2, A, c, rfl, hT2⟩
 simp only [tv, Tr.kind, Tr.name, Tr.n, Tr.place, Tr.parts]
 have l2 := l0.below hb2 l0.lt
 have hb02 := hb0.trans (hb2.mono hb0.size)
 have hT3 : TIn (w2.alloc (.cells #[.int .i64 tk, .string ts, .int .i64 tn, .int .i64 ta, .slice A tl.length (capF tl.length c)] 49)) Any (.node tk ts tn ta tl) A := TIn.keep _ hT2 fun b j _ hlt => ⟨World.cell?_alloc_lt _ _ ⟨b, j, none⟩ hlt, trivial⟩
 have l3 := l2.old (.cells #[.int .i64 tk, .string ts, .int .i64 tn, .int .i64 ta, .slice A tl.length (capF tl.length c)] 49)
 have hb03 := hb02.alloc hb02.size (.cells #[.int .i64 tk, .string ts, .int .i64 tn, .int .i64 ta, .slice A tl.length (capF tl.length c)] 49)
 have HC2 := Lib.hid (HC.out A c _ hT3)
 simp only [tv, Tr.kind, Tr.name, Tr.n, Tr.place, Tr.parts] at HC2
 clear hT2 hT3 HC HP hb2 hb02 l2 l0 hb0
 go_wp2_with fail
 refine HC2.out.mono ?_
 rintro e w4 ⟨A4, c4, rfl, hT4, hb4⟩
 simp only [ev, Te.kind, Te.n, Te.name, Te.parts]
 have l5 := (l3.below hb4 l3.lt).old (.cells #[.int .i64 xk, .int .i64 xn, .string xs, .slice A4 xl.length (capF xl.length c4)] 24)
 have hb05 := (hb03.trans (hb4.mono hb03.size)).alloc (hb03.trans (hb4.mono hb03.size)).size (.cells #[.int .i64 xk, .int .i64 xn, .string xs, .slice A4 xl.length (capF xl.length c4)] 24)
 have hsz : w.heap.size < w4.heap.size := (l3.below hb4 l3.lt).lt
 have hT5 := EIn.below (w' := w4.alloc (.cells #[.int .i64 xk, .int .i64 xn, .string xs, .slice A4 xl.length (capF xl.length c4)] 24)) (X := fun g => w.heap.size + 1 ≤ g) _ (EIn.wide _ hT4 fun g hg _ => by have := hb03.size; simp at hg ⊢; have := l3.lt; simp at this; omega) ((Below.refl _ _).alloc (Nat.le_refl _) _) (Nat.le_refl _)
 have HT5 := Lib.hid hT5
 have HB := Lib.hid hb05
 have l6 : Lies (w4.alloc (.cells #[.int .i64 xk, .int .i64 xn, .string xs, .slice A4 xl.length (capF xl.length c4)] 24)) w4.heap.size 24 #[.int .i64 xk, .int .i64 xn, .string xs, .slice A4 xl.length (capF xl.length c4)] := Lies.new _ _ _
 clear hT4 hT5 hb4 hb03 l3 HC2 hb05
 go_upto_region 3 with fail
 obtain ⟨b6, hb6⟩ : ∃ b, b = w4.heap.size := ⟨_, rfl⟩
 rw [← hb6] at l6 hsz
 rw [← hb6]
 clear hb6
 generalize w4.alloc (.cells #[.int .i64 xk, .int .i64 xn, .string xs, .slice A4 xl.length (capF xl.length c4)] 24) = V at *
 obtain ⟨⟨x0, x1, x2, x3⟩, g0, g1, g2, g3⟩ := l5.four
 obtain ⟨⟨y0, y1, y2, y3⟩, _⟩ := l6.four
 go_wp2_with fail
 refine bodyPost_ret (res_term (p := 2) Tryz.results19 rfl (l5.all _ _ _ _)) rfl ?_
 refine ⟨A4, c4, rfl, ?_, Below.all HB.out (Nat.le_refl _) _ _ _ _⟩
 have hgo : ¬ w.heap.size + 1 ≤ w.heap.size := by omega
 exact EIn.wide _ (EIn.setCell _ (EIn.setCell _ (EIn.setCell _ (EIn.setCell _ HT5.out ⟨w.heap.size, 0, none⟩ _ hgo) ⟨w.heap.size, 1, none⟩ _ hgo) ⟨w.heap.size, 2, none⟩ _ hgo) ⟨w.heap.size, 3, none⟩ _ hgo) fun g hg _ => by show w.heap.size ≤ g; omega
end Lx
end Go.Proofs.YtiocmiikghcoaaaGreatDoor
