/-
  Texts that lie one behind the other: Dg SuBi SuAll SuCh SuUp DepthE SuR6.
-/
import Derived.Test.YtiocmiikghcoaaaGreatDoorC2
import Derived.Test.YtiocmiikghcoaaaGreatDoorC7
import Derived.Test.YtiocmiikghcoaaaGreatDoorC1
import Derived.Test.YtiocmiikghcoaaaGreatDoorC3
import Derived.Laws.IdiomStrings
import Derived.Shelf.Strconv.Itoa3
import Derived.Deep.RegionHeld
import Derived.Deep.Cut
import Derived.Deep.RegionHeld3
import Derived.Deep.DrawnRows
import Derived.Maps.AppendAt
import Derived.Deep.AppendLies
namespace Go.Proofs.YtiocmiikghcoaaaGreatDoor
open Go.RowKit
namespace Lx
set_option maxRecDepth 100000
theorem nDig_le : ∀ (k u : Nat), u < 10 ^ (k + 1) → Lib.nDigits u ≤ k + 1
 | 0, u, h => by rw [Lib.nDigits_small (by simpa using h)]; exact Nat.le_refl _
 | k + 1, u, h => by
  by_cases hu : u < 10
  ·rw [Lib.nDigits_small hu]; omega
  ·rw [Lib.nDigits_big hu]
   have : u / 10 < 10 ^ (k + 1) := by
    rw [Nat.pow_succ] at h
    omega
   have := nDig_le k (u / 10) this
   omega
theorem dg_small {n : Int} (h0 : 0 ≤ n) (h1 : n < 10) : Lib.itoa n = [UInt8.ofNat (48 + n % 10).toNat] := by
 have : ¬ n < 0 := by omega
 rw [Lib.itoa, if_neg this, Lib.decDigits_one (by omega)]
 congr 2
 omega
theorem dg_big {n : Int} (_ : 0 ≤ n) (h1 : ¬ n < 10) : Lib.itoa n = Lib.itoa (n / 10) ++ [UInt8.ofNat (48 + n % 10).toNat] := by
 have h2 : ¬ n < 0 := by omega
 have h3 : ¬ n / 10 < 0 := by omega
 rw [Lib.itoa, if_neg h2, Lib.itoa, if_neg h3, Lib.decDigits, dif_neg (by omega)]
 have e1 : n.toNat / 10 = (n / 10).toNat := by omega
 have e2 : 48 + n.toNat % 10 = (48 + n % 10).toNat := by omega
 rw [e1, e2]
set_option maxHeartbeats 4000000 in
theorem rdg_any : ∀ (k : Nat) (n : Int) (_ : 0 ≤ n) (_ : n ≤ 9223372036854775807) (_ : n.toNat < k) (w : World), Calls Tryz.prog 33 #[.int .i64 n] w fun e w' => e = .returned (.string ⟨(Lib.itoa n).toArray⟩) ∧ Below w.heap.size w w'
 | 0, n, h0, _, hk, w => by omega
 | k + 1, n, h0, hm, hk, w => by
  have hb : Below w.heap.size w (w.alloc (.cells #[.int .u8 (48 + n % 10)] 5)) := (Below.refl _ w).alloc (Nat.le_refl _) _
  have HC : (convert 80 9 (.slice (some ⟨w.heap.size, 0, none⟩) 1 1)).run Tryz.prog (w.alloc (.cells #[.int .u8 (48 + n % 10)] 5)) = .ok (.string ⟨[UInt8.ofNat (48 + n % 10).toNat].toArray⟩) (w.alloc (.cells #[.int .u8 (48 + n % 10)] 5)) := by
   refine run_convert_bytes_back _ _ _ 5 ⟨w.heap.size, 0, none⟩ 1 [UInt8.ofNat (48 + n % 10).toNat] (by kernel_rfl) (by kernel_rfl) (by kernel_rfl) ?_
   intro j hj
   have : j = 0 := by simp at hj; omega
   subst this
   have e : ((UInt8.ofNat (48 + n % 10).toNat).toNat : Int) = 48 + n % 10 := by
    rw [UInt8.toNat_ofNat']
    omega
   simpa [Addr.add] using e.symm
  by_cases h1 : n < 10
  ·rw [dg_small h0 h1]
   have j1 : ¬ 10 ≤ n := by omega
   have j0 : ¬ n < 0 := by omega
   obtain ⟨d, hd⟩ : ∃ d : List UInt8, d = [UInt8.ofNat (48 + n % 10).toNat] := ⟨_, rfl⟩
   rw [← hd] at HC ⊢
   go_enter Tryz.func33, Tryz.ntmps33
   go_wp2_with fail
   go_ret
   exact ⟨rfl, hb⟩
  ·rw [dg_big h0 h1]
   have j1 : 10 ≤ n := by omega
   have j0 : ¬ n < 0 := by omega
   have HR := fun (W : World) => rdg_any k (n / 10) (by omega) (by omega) (by omega) W
   have HR := Lib.hid HR
   have hlen : (Lib.itoa (n / 10)).length ≤ 20 := by
    have : ¬ n / 10 < 0 := by omega
    rw [Lib.itoa, if_neg this, Lib.decDigits_length]
    exact nDig_le 19 _ (by omega)
   go_enter Tryz.func33, Tryz.ntmps33
   go_wp2_with fail
   refine (HR.out _).mono ?_
   rintro e w' ⟨rfl, hb2⟩
   have hz : (ByteArray.mk (Lib.itoa (n / 10)).toArray).size ≤ 20 := by
    show (Lib.itoa (n / 10)).toArray.size ≤ 20
    rw [List.size_toArray]
    exact hlen
   obtain ⟨S, hS⟩ : ∃ S, S = ByteArray.mk (Lib.itoa (n / 10)).toArray := ⟨_, rfl⟩
   have hS2 : S.data.toList = Lib.itoa (n / 10) := by rw [hS]
   rw [← hS] at hz ⊢
   clear hS
   have hz1 : ¬ 9223372036854775807 < S.size + 1 := by omega
   have hz2 : ¬ 9223372036854775807 < 1 + S.size := by omega
   go_wp2_with fail
   go_ret
   refine ⟨?_, hb.trans (hb2.mono (by simp))⟩
   show Ending.returned (Value.string (S ++ _)) = _
   congr 2
   apply ByteArray.ext
   apply Array.toList_inj.1
   simp [hS2]
theorem dg_neg {n : Int} (h : n < 0) : Lib.itoa n = 45 :: (if -n < 10 then [] else Lib.itoa (-n / 10)) ++ [UInt8.ofNat (48 + (-n) % 10).toNat] := by
 rw [Lib.itoa, if_pos h]
 by_cases h1 : -n < 10
 ·rw [if_pos h1, Lib.decDigits_one (by omega)]
  have e : 48 + n.natAbs = (48 + -n % 10).toNat := by omega
  rw [e]
  rfl
 ·have h2 : ¬ -n / 10 < 0 := by omega
  rw [if_neg h1, Lib.itoa, if_neg h2, Lib.decDigits, dif_neg (by omega)]
  have e1 : n.natAbs / 10 = (-n / 10).toNat := by omega
  have e2 : 48 + n.natAbs % 10 = (48 + (-n) % 10).toNat := by omega
  simp [e1, e2]
set_option maxHeartbeats 4000000 in
theorem rdg6_any (n : Int) (h0 : -9223372036854775808 ≤ n) (h1 : n ≤ 9223372036854775807) (w : World) : Calls Tryz.prog 33 #[.int .i64 n] w fun e w' => e = .returned (.string ⟨(Lib.itoa n).toArray⟩) ∧ Below w.heap.size w w' := by
 by_cases hn : 0 ≤ n
 ·exact rdg_any (n.toNat + 1) n hn h1 (by omega) w
 ·have hn' : n < 0 := by omega
  obtain ⟨m, hm⟩ : ∃ m : Int, m = -n := ⟨_, rfl⟩
  have hnm : n = -m := by omega
  have e1 : n.tdiv 10 = -(m / 10) := by rw [hnm, Int.neg_tdiv, Int.tdiv_eq_ediv_of_nonneg (by omega)]
  have e2 : n.tmod 10 = -(m % 10) := by rw [hnm, Int.neg_tmod, Int.tmod_eq_emod_of_nonneg (by omega)]
  obtain ⟨D, hD⟩ : ∃ D : List UInt8, D = if m < 10 then [] else Lib.itoa (m / 10) := ⟨_, rfl⟩
  have hE := dg_neg hn'
  rw [← hm, ← hD] at hE
  have HR := Lib.hid (fun (W : World) => rdg_any ((m / 10).toNat + 1) (m / 10) (by omega) (by omega) (by omega) W)
  have hDl : D.length ≤ 20 := by
   rw [hD]
   split
   ·simp
   ·rw [Lib.itoa, if_neg (by omega), Lib.decDigits_length]
    exact nDig_le 19 _ (by omega)
  obtain ⟨r, hr⟩ : ∃ r : Int, r = m % 10 := ⟨_, rfl⟩
  obtain ⟨d, hd⟩ : ∃ d : Int, d = m / 10 := ⟨_, rfl⟩
  rw [← hr] at e2 hE
  rw [← hd] at e1 HR
  have r0 : 0 ≤ r := by omega
  have r9 : r ≤ 9 := by omega
  have HE := Lib.hid hE
  have HDD : Hid (if m < 10 then D = [] else D = Lib.itoa d) := Lib.hid (by
   rw [hD, hd]
   split
   ·rfl
   ·rfl)
  have HC : Hid (∀ W : World, (convert 80 9 (.slice (some ⟨W.heap.size, 0, none⟩) 1 1)).run Tryz.prog (W.alloc (.cells #[.int .u8 (48 + r)] 5)) = .ok (.string ⟨[UInt8.ofNat (48 + r).toNat].toArray⟩) (W.alloc (.cells #[.int .u8 (48 + r)] 5))) := Lib.hid fun W => by
   refine run_convert_bytes_back _ _ _ 5 ⟨W.heap.size, 0, none⟩ 1 [UInt8.ofNat (48 + r).toNat] (by kernel_rfl) (by kernel_rfl) (by kernel_rfl) ?_
   intro j hj
   have : j = 0 := by simp at hj; omega
   subst this
   have e : ((UInt8.ofNat (48 + r).toNat).toNat : Int) = 48 + r := by
    rw [UInt8.toNat_ofNat']
    omega
   simpa [Addr.add] using e.symm
  have b8 : ¬ 255 < 48 + r := by omega
  have hb : ∀ W : World, Below W.heap.size W (W.alloc (.cells #[.int .u8 (48 + r)] 5)) := fun W => (Below.refl _ W).alloc (Nat.le_refl _) _
  obtain ⟨S, hS⟩ : ∃ S, S = ByteArray.mk [UInt8.ofNat (48 + r).toNat].toArray := ⟨_, rfl⟩
  rw [← hS] at HC
  have hSz : S.size ≤ 1 := by rw [hS]; exact Nat.le_refl _
  have hSd : S.data.toList = [UInt8.ofNat (48 + r).toNat] := by rw [hS]
  have HSd := Lib.hid hSd
  clear hS hSd
  by_cases h2 : m < 10
  ·have hd0 : d = 0 := by omega
   subst hd0
   have e1 : n.tdiv 10 = 0 := e1
   have hDD : D = [] := by have := HDD.out; rwa [if_pos h2] at this
   clear hE hD hr hd hnm hm h2 HDD HR hDl
   have HC := HC.out w
   have HDD := Lib.hid hDD
   have HB := Lib.hid (hb w)
   have b1 : ¬ 9223372036854775807 < 1 + S.size := by omega
   clear hDD hb
   go_enter Tryz.func33, Tryz.ntmps33
   go_wp2_with fail
   go_ret
   refine ⟨?_, HB.out⟩
   rw [HE.out, HDD.out]
   show Ending.returned (Value.string _) = _
   congr 2
   apply ByteArray.ext
   apply Array.toList_inj.1
   simp [HSd.out]
  ·have hd0 : -d < 0 := by omega
   have hDD : D = Lib.itoa d := by have := HDD.out; rwa [if_neg h2] at this
   have w1 : wrap64 (-d) = -d := by unfold wrap64; omega
   have w2 : wrap64 d = d := by unfold wrap64; omega
   clear hE hD hr hd hnm hm h2 HDD
   rw [← hDD] at HR
   obtain ⟨S2, hS2⟩ : ∃ S, S = ByteArray.mk D.toArray := ⟨_, rfl⟩
   rw [← hS2] at HR
   have hz2 : S2.size ≤ 20 := by rw [hS2]; show D.toArray.size ≤ 20; rw [List.size_toArray]; exact hDl
   have HS2 : Hid (S2.data.toList = D) := Lib.hid (by rw [hS2])
   have b1 : ¬ 9223372036854775807 < 1 + S2.size := by omega
   have b2 : ¬ 9223372036854775807 < 1 + S2.size + S.size := by omega
   clear hS2 hDD hDl
   go_enter Tryz.func33, Tryz.ntmps33
   go_wp2_with fail
   refine (HR.out w).mono ?_
   rintro e w2 ⟨rfl, hb2⟩
   have HC := HC.out w2
   have HB := Lib.hid (hb2.trans ((hb w2).mono hb2.size))
   clear hb hb2
   go_wp2_with fail
   go_ret
   refine ⟨?_, HB.out⟩
   rw [HE.out]
   show Ending.returned (Value.string _) = _
   congr 2
   apply ByteArray.ext
   apply Array.toList_inj.1
   simp [HSd.out, HS2.out]
theorem binders_any (k n : Int) (s : ByteArray) (A : Option Addr) (m c : Nat) (w : World) :
  Calls Tryz.prog 90 #[.agg #[.int .i64 k, .int .i64 n, .string s, .slice A m c]] w fun e w' => e = .returned (.int .i64 (moreE k n)) ∧ Below w.heap.size w w' := by
 have hb : Below w.heap.size w (w.alloc (.cells #[.int .i64 k, .int .i64 n, .string s, .slice A m c] 24)) := (Below.refl _ w).alloc (Nat.le_refl _) _
 rcases (by omega : k = 2 ∨ k = 6 ∨ (k ≠ 2 ∧ k ≠ 6)) with rfl | rfl | ⟨h2, h6⟩
 ·go_enter Tryz.func90, Tryz.ntmps90
  go_wp2_with fail
  go_ret
  exact ⟨rfl, hb⟩
 ·go_enter Tryz.func90, Tryz.ntmps90
  go_wp2_with fail
  go_ret
  exact ⟨rfl, hb⟩
 ·have e2 : (k == 2) = false := by simpa using h2
  have e6 : (k == 6) = false := by simpa using h6
  have HE : Hid (moreE k n = 0) := by
   refine Lib.hid ?_
   simp [moreE, h2, h6]
  clear h2 h6
  go_enter Tryz.func90, Tryz.ntmps90
  go_wp2_with fail
  go_ret
  exact ⟨ret_int HE.out.symm, hb⟩
def ChOk (fv : Value) (F : Int → ByteArray → Int → Te) (w0 : World) (t : Te) (b : Int) : Prop :=
 ∀ (A : Option Addr) (c : Nat) (W : World), Below w0.heap.size w0 W → EIn W Any t A → Calls Tryz.prog 59 #[ev t A c, .int .i64 b, fv] W (GivesE (chE F t b) W)
set_option maxHeartbeats 2000000 in
theorem chAll_any (fv : Value) (F : Int → ByteArray → Int → Te) (w0 : World) (l : List Te) (A : Option Addr) (c : Nat) (b : Int) (w : World)
  (hlen : l.length ≤ 1000000000000) (hI : ELIn w Any l A 0) (hw : Below w0.heap.size w0 w) (hc : ∀ t ∈ l, ChOk fv F w0 t b) :
  Calls Tryz.prog 89 #[.slice A l.length c, .int .i64 b, fv] w fun e w' => ∃ A' c', e = .returned (.slice A' l.length (capF l.length c')) ∧ ELIn w' (fun g => w.heap.size ≤ g) (chEL F l b) A' 0 ∧ Below w.heap.size w w' := by
 obtain ⟨m, hm⟩ : ∃ m, m = l.length := ⟨_, rfl⟩
 rw [← hm] at hlen ⊢
 have hm1 : m ≤ l.length := by omega
 have hm2 : l.length ≤ m := by omega
 have HI := Lib.hid hI
 have HC := Lib.hid hc
 have HW := Lib.hid hw
 have HM := Lib.hid hm
 clear hI hc hw hm
 by_cases hm0 : m = 0
 ·subst hm0
  go_enter Tryz.func89, Tryz.ntmps89
  go_wp2_with fail
  go_ret
  have hl : l = [] := List.eq_nil_of_length_eq_zero (by omega)
  refine ⟨none, 0, rfl, ?_, Below.refl _ _⟩
  rw [hl, chEL, ELIn]; trivial
 ·have hmp : (0 : Int) < (m : Int) := by omega
  have hne : ((m : Int) == 0) = false := by simp; omega
  obtain ⟨i0, hi0, hz0', hz1, hz2⟩ : ∃ i, Tryz.prog.info? 24 = some i ∧ i.zero = some (.agg #[.int .i64 0, .int .i64 0, .string ⟨#[]⟩, .slice none 0 0]) ∧ i.size = 4 ∧ i.bytes = 56 := by
   have h := infoE
   cases hq : Tryz.prog.info? 24 with
   | none => rw [hq] at h; cases h
   | some i => rw [hq] at h; simp only [Option.map_some, Option.some.injEq, Prod.mk.injEq] at h; exact ⟨i, rfl, h.1, h.2.1, h.2.2⟩
  have hmk := fun W => run_make_rowE (P := Tryz.prog) 22 24 i0 _ Tryz.underlying22 hi0 hz0' .i64 .i64 m m (Nat.le_refl _) (by rw [hz2]; omega) (by omega) W
  rw [hz1] at hmk
  clear hi0 hz0' hz1 hz2
  go_enter Tryz.func89, Tryz.ntmps89
  go_wp2_with fail
  obtain ⟨W1, hW1⟩ : ∃ W, W = w.alloc (.cells (madeCells #[.int .i64 0, .int .i64 0, .string ⟨#[]⟩, .slice none 0 0] (m * 4)) 24) := ⟨_, rfl⟩
  have hr1 : RowF W1 w.heap.size m [] := by rw [hW1]; exact RowF.fresh w m
  have hb1 : Below w.heap.size w W1 := by rw [hW1]; exact (Below.refl _ w).alloc (Nat.le_refl _) _
  obtain ⟨G, hG⟩ : ∃ G, G = w.heap.size := ⟨_, rfl⟩
  rw [← hW1, ← hG]
  rw [← hG] at hr1 hb1
  have HG := Lib.hid hG
  clear hW1 hmk hG
  go_loopw [18] (fun x wr => ∃ i : Nat, i ≤ m ∧ x = .int .i64 i ∧ RowF wr G m (chEL F (l.take i) b) ∧ Below G w wr) (fun x _ => m - (intOf x).toNat)
  case atStart => exact ⟨0, by omega, rfl, by simpa [chEL] using hr1, hb1⟩
  case round =>
   obtain ⟨i, hi, rfl, hrow, hbw⟩ := hrel
   have hGlt := hrow.lt
   by_cases hlt : i < m
   ·have hia : i < l.length := by omega
    have hbw' := hbw
    rw [HG.out] at hbw'
    obtain ⟨g, o, A', c', ⟨hA, _⟩, d0, d1, d2, d3, hIn⟩ := ELIn.at_ l (ELIn.keep l HI.out fun g j _ hlt => ⟨hbw'.cell (p := ⟨g, j, none⟩) hlt, trivial⟩) i hia
    subst hA
    have HS := Lib.hid (chEL_take F l i b hia)
    have hc := HC.out _ (List.getElem_mem hia)
    simp only [Nat.zero_add] at d0 d1 d2 d3
    obtain ⟨tr, hu⟩ : ∃ tr, tr = l[i]'hia := ⟨_, rfl⟩
    rw [← hu] at d0 d1 d2 d3 hIn hc HS
    clear hu hbw'
    obtain ⟨tk, tn, ts, tl⟩ := tr
    simp only [Te.kind, Te.n, Te.name, Te.parts] at d0 d1 d2 d3
    have hWb : Below wr.heap.size wr (wr.alloc (.cells #[.int .i64 tk, .int .i64 tn, .string ts, .slice A' tl.length (capF tl.length c')] 24)) := (Below.refl _ wr).alloc (Nat.le_refl _) _
    have hcw := hc A' c' (wr.alloc (.cells #[.int .i64 tk, .int .i64 tn, .string ts, .slice A' tl.length (capF tl.length c')] 24)) (HW.out.trans ((hbw.trans (hWb.mono (by have := hbw.size; have := HG.out; omega))).mono (by have := HW.out.size; have := HG.out; omega))) (EIn.below _ hIn hWb (Nat.le_refl _))
    have HCW := Lib.hid hcw
    have HB := Lib.hid hbw
    have HR := Lib.hid hrow
    clear hcw hc hIn hbw hrow
    go_wp2_with fail
    refine HCW.out.mono ?_
    rintro e w2 ⟨A2, c2, rfl, hT2, hb2⟩
    obtain ⟨u, hu⟩ : ∃ u, u = chE F (.node tk tn ts tl) b := ⟨_, rfl⟩
    rw [← hu] at hT2 HS ⊢
    clear hu
    obtain ⟨uk, un, us, ul⟩ := u
    simp only [ev, Te.kind, Te.n, Te.name, Te.parts]
    have hWs := hWb.size
    have hrow2 := (HR.out.below hWb (Nat.le_refl _)).below hb2 (Nat.le_refl _)
    have hbw2 := (HB.out.trans (hWb.mono (by omega))).trans (hb2.mono (by omega))
    have hT3 : EIn w2 (fun g => G < g) (.node uk un us ul) A2 := EIn.wide _ hT2 fun b hb _ => by have hb' : _ ≤ b := hb; omega
    obtain ⟨y0, x0, g0⟩ := hrow2.cell i 0 hlt (by omega)
    obtain ⟨y1, x1, g1⟩ := hrow2.cell i 1 hlt (by omega)
    obtain ⟨y2, x2, g2⟩ := hrow2.cell i 2 hlt (by omega)
    obtain ⟨y3, x3, g3⟩ := hrow2.cell i 3 hlt (by omega)
    simp only [Nat.add_zero] at x0 g0
    have hil : (chEL F (l.take i) b).length = i := by rw [chEL_length]; simp; omega
    have HIL := Lib.hid hil
    have HT := Lib.hid hT3
    have HR2 := Lib.hid hrow2
    have HB2 := Lib.hid hbw2
    clear hil hT3 hT2 hrow2 hbw2 hb2 hWb hWs
    go_wp2_with fail
    go_roundw
    case rel =>
     refine ⟨i + 1, by omega, by go_num, ?_, Below.four HB2.out (Nat.le_refl _) _ _ _ _ _⟩
     rw [HS.out]
     have h := HR2.out.put (.node uk un us ul) A2 c2 (by rw [HIL.out]; exact hlt) HT.out
     rw [HIL.out] at h
     exact h
    case measure => simp [intOf]; omega
   ·have HB := Lib.hid hbw
    have HR := Lib.hid hrow
    clear hbw hrow
    go_wp2_with fail
    go_ret
    obtain rfl : i = m := by omega
    have hrow := HR.out
    rw [List.take_of_length_le (by omega)] at hrow
    have hil : (chEL F l b).length = i := by rw [chEL_length]; omega
    rw [← hil] at hrow
    refine ⟨some ⟨G, 0, none⟩, i, ?_, ?_, ?_⟩
    ·rw [capF_of (Nat.le_refl i)]; rfl
    ·exact ELIn.keep _ (hrow.parts (Y := fun g => w.heap.size ≤ g) (fun g hg => by have := HG.out; omega)) fun g j hX _ => ⟨rfl, hX⟩
    ·have := HB.out; rw [HG.out] at this; exact this
def ClosP (F : Int → ByteArray → Int → Te) (n : Int) (s : ByteArray) (A : Option Addr) (c : Nat) (b : Int) (W : World) (e : Ending) (w' : World) : Prop :=
 Below W.heap.size W w' ∧ ((∃ A' c', e = .returned (.tuple #[ev (F n s b) A' c', .bool true]) ∧ EIn w' (fun g => W.heap.size ≤ g) (F n s b) A') ∨
  (∃ n', e = .returned (.tuple #[.agg #[.int .i64 1, .int .i64 n', .string s, .slice A 0 c], .bool false]) ∧ (-9223372036854775808 ≤ n' ∧ n' ≤ 9223372036854775807) ∧ F n s b = .node 1 n' s []))
def ClosE (K : Nat) (cap : Array Value) (F : Int → ByteArray → Int → Te) (w0 : World) : Prop :=
 ∀ (n : Int) (s : ByteArray) (A : Option Addr) (c : Nat) (b : Int) (W : World), Below w0.heap.size w0 W → s.size ≤ 140737488351232 → -1099511627776 ≤ n → n ≤ 1099511627776 → -35184372088832000 ≤ b → b ≤ 35184372088832000 →
  Calls Tryz.prog K (#[.agg #[.int .i64 1, .int .i64 n, .string s, .slice A 0 c], .int .i64 b] ++ cap) W (ClosP F n s A c b W)
set_option maxHeartbeats 4000000 in
theorem ch_var (K : Nat) (cap : Array Value) (F : Int → ByteArray → Int → Te) (w0 : World) (hen : ∀ args w, (callFunc K args).run Tryz.prog w = .ok (.enter K args) w) (hcl : ClosE K cap F w0)
  (n : Int) (s : ByteArray) (A : Option Addr) (c : Nat) (b : Int) (w : World) (hw : Below w0.heap.size w0 w) (hs : s.size ≤ 140737488351232) (h0 : -1099511627776 ≤ n) (h1 : n ≤ 1099511627776) (h2 : -35184372088832000 ≤ b) (h3 : b ≤ 35184372088832000) :
  Calls Tryz.prog 59 #[.agg #[.int .i64 1, .int .i64 n, .string s, .slice A 0 c], .int .i64 b, .func (.func K) #[] cap] w (GivesE (F n s b) w) := by
 obtain ⟨W, hW⟩ : ∃ W, W = (w.alloc (.cells #[.int .i64 1, .int .i64 n, .string s, .slice A 0 c] 24)).alloc (.cells #[.int .i64 0, .int .i64 0, .string ⟨#[]⟩, .slice none 0 0] 24) := ⟨_, rfl⟩
 have hb : Below w.heap.size w W := by rw [hW]; exact ((Below.refl _ w).alloc (Nat.le_refl _) _).alloc (by simp) _
 have hz : W.heap.size = w.heap.size + 2 := by rw [hW]; simp
 have l3 : Lies W w.heap.size 24 #[.int .i64 1, .int .i64 n, .string s, .slice A 0 c] := by rw [hW]; exact (Lies.new w _ _).old _
 have l6 : Lies W (w.heap.size + 1) 24 #[.int .i64 0, .int .i64 0, .string ⟨#[]⟩, .slice none 0 0] := by
  rw [hW]; simpa using Lies.new (w.alloc (.cells #[.int .i64 1, .int .i64 n, .string s, .slice A 0 c] 24)) 24 #[.int .i64 0, .int .i64 0, .string ⟨#[]⟩, .slice none 0 0]
 have HC := Lib.hid (hcl n s A c b W (hw.trans (hb.mono hw.size)) hs h0 h1 h2 h3)
 rw [hW] at HC
 go_enter Tryz.func59, Tryz.ntmps59
 go_wp2_with fail
 refine HC.out.mono ?_
 rw [← hW]
 clear HC hcl hW
 rintro e w2 ⟨hb2, ⟨A', c', rfl, hT⟩ | ⟨n', rfl, hn', hF⟩⟩
 ·obtain ⟨u, hu⟩ : ∃ u, u = F n s b := ⟨_, rfl⟩
  have HU := Lib.hid hu
  rw [← hu] at hT ⊢
  clear hu
  obtain ⟨uk, un, us, ul⟩ := u
  simp only [ev, Te.kind, Te.n, Te.name, Te.parts]
  have l6b := (l6.below hb2 (by omega)).old (.cells #[.int .i64 uk, .int .i64 un, .string us, .slice A' ul.length (capF ul.length c')] 24)
  obtain ⟨⟨x0, x1, x2, x3⟩, g0, g1, g2, g3⟩ := l6b.four
  have hbw := hb.trans (hb2.mono (by omega))
  have hbs := hbw.size
  go_wp2_with fail
  refine bodyPost_ret (res_term (p := 6) Tryz.results59 rfl (l6b.all _ _ _ _)) rfl ⟨A', c', by rw [← HU.out]; rfl, ?_, Below.all (hbw.alloc hbs _) (by omega) _ _ _ _⟩
  rw [← HU.out]
  refine EIn.keep _ hT fun g j hX hlt => ?_
  have hX' : W.heap.size ≤ g := hX
  have hne : ∀ q, (⟨w.heap.size + 1, q, none⟩ : Addr) ≠ ⟨g, j, none⟩ := fun q e => by injection e with e; omega
  refine ⟨?_, by omega⟩
  rw [World.cell?_setCell_other _ _ _ _ (hne _), World.cell?_setCell_other _ _ _ _ (hne _), World.cell?_setCell_other _ _ _ _ (hne _), World.cell?_setCell_other _ _ _ _ (hne _)]
  exact World.cell?_alloc_lt _ _ _ hlt
 ·have l3b := (l3.below hb2 (by omega)).old (.cells #[.int .i64 1, .int .i64 n', .string s, .slice A 0 c] 24)
  have l6b := (l6.below hb2 (by omega)).old (.cells #[.int .i64 1, .int .i64 n', .string s, .slice A 0 c] 24)
  have hbw := hb.trans (hb2.mono (by omega))
  have hbs := hbw.size
  have hbw := hbw.alloc hbs (.cells #[.int .i64 1, .int .i64 n', .string s, .slice A 0 c] 24)
  have hs2 := hb2.size
  obtain ⟨⟨x0, x1, x2, x3⟩, g0, g1, g2, g3⟩ := l3b.four
  go_upto_region 6 with fail
  have l3c := l3b.all (.int .i64 1) (.int .i64 n') (.string s) (.slice A 0 c)
  have l6c := l6b.far4 (G := w.heap.size) (by omega) 0 (.int .i64 1) (.int .i64 n') (.string s) (.slice A 0 c)
  have hb8 := Below.four hbw (G := w.heap.size) (Nat.le_refl _) 0 (.int .i64 1) (.int .i64 n') (.string s) (.slice A 0 c)
  clear l3b l6b hbw x0 x1 x2 x3 g0 g1 g2 g3 l3 l6 hb2 hb hen
  simp only [Nat.zero_add] at l6c hb8
  generalize ((((w2.alloc (.cells #[.int .i64 1, .int .i64 n', .string s, .slice A 0 c] 24)).setCell ⟨w.heap.size, 0, none⟩ (.int .i64 1)).setCell ⟨w.heap.size, 1, none⟩ (.int .i64 n')).setCell ⟨w.heap.size, 2, none⟩ (.string s)).setCell ⟨w.heap.size, 3, none⟩ (.slice A 0 c) = V8 at l3c l6c hb8 ⊢
  have l3 := l3c
  have l6 := l6c
  clear l3c l6c
  have hz8 := l6.lt
  obtain ⟨mo, hmo⟩ : ∃ mo, mo = moreE 1 n' := ⟨_, rfl⟩
  have hmo0 : mo = 0 := by rw [hmo]; simp [moreE]
  have hm0 : 0 ≤ mo := by omega
  have hm1 : mo ≤ 0 := by omega
  have HCL : Hid (∀ X, Below V8.heap.size V8 X → Calls Tryz.prog 88 #[.string s] X fun e w' => e = .returned (.string s) ∧ Below X.heap.size X w') := Lib.hid fun X _ => clone_any s X (by omega)
  have HBI : Hid (∀ X, Below V8.heap.size V8 X → Calls Tryz.prog 90 #[.agg #[.int .i64 1, .int .i64 n', .string s, .slice A 0 c]] X fun e w' => e = .returned (.int .i64 mo) ∧ Below X.heap.size X w') := Lib.hid fun X _ => by rw [hmo]; exact binders_any 1 n' s A 0 c X
  have HAL : Hid (∀ X, Below V8.heap.size V8 X → Calls Tryz.prog 89 #[.slice A 0 c, .int .i64 (b + mo), .func (.func K) #[] cap] X fun e w' => ∃ A' c', e = .returned (.slice A' 0 (capF 0 c')) ∧ ELIn w' (fun g => X.heap.size ≤ g) (chEL F [] (b + mo)) A' 0 ∧ Below X.heap.size X w') := Lib.hid fun X hX =>
   chAll_any (.func (.func K) #[] cap) F w0 [] A c (b + mo) X (by simp) (by rw [ELIn]; trivial) ((hw.trans (hb8.mono hw.size)).trans (hX.mono (by have := hw.size; omega))) (fun t ht => by simp at ht)
  obtain ⟨b3, hb3⟩ : ∃ b3, b3 = w.heap.size := ⟨_, rfl⟩
  obtain ⟨b6, hb6⟩ : ∃ b6, b6 = w.heap.size + 1 := ⟨_, rfl⟩
  rw [← hb3] at l3
  rw [← hb6] at l6
  rw [← hb6, ← hb3]
  have e31 : b3 ≤ w.heap.size := by omega
  have e32 : w.heap.size ≤ b3 := by omega
  have e61 : b6 ≤ w.heap.size + 1 := by omega
  have e62 : w.heap.size + 1 ≤ b6 := by omega
  clear hb3 hb6
  have HF := Lib.hid hF
  have HW := Lib.hid hw
  have HN := Lib.hid hn'
  clear hF hw hmo hmo0 hn'
  have HS : Hid (∀ V', Below V8.heap.size V8 V' → (fun V' : World => (V'.cell? ⟨b3, 0, none⟩ = some (.int .i64 1) ∧ V'.cell? ⟨b3, 1, none⟩ = some (.int .i64 n') ∧ V'.cell? ⟨b3, 2, none⟩ = some (.string s) ∧ V'.cell? ⟨b3, 3, none⟩ = some (.slice A 0 c))) V') := Lib.hid fun V' h =>
   ⟨(h.cell (p := ⟨b3, 0, none⟩) l3.lt).trans (l3.cell 0), (h.cell (p := ⟨b3, 1, none⟩) l3.lt).trans (l3.cell 1), (h.cell (p := ⟨b3, 2, none⟩) l3.lt).trans (l3.cell 2), (h.cell (p := ⟨b3, 3, none⟩) l3.lt).trans (l3.cell 3)⟩
  have HB8 := Lib.hid hb8
  have HL3 := Lib.hid l3
  have hs8 := hb8.size
  clear hb8 l3
  have hb_1 : Below V8.heap.size V8 V8 := Below.refl _ _
  refine wp_region_K (S := (fun V' : World => (V'.cell? ⟨b3, 0, none⟩ = some (.int .i64 1) ∧ V'.cell? ⟨b3, 1, none⟩ = some (.int .i64 n') ∧ V'.cell? ⟨b3, 2, none⟩ = some (.string s) ∧ V'.cell? ⟨b3, 3, none⟩ = some (.slice A 0 c)))) 16 rfl (HS.out _ hb_1.drew) (fun hSs => ?_)
  change wpAnyK _ _ _ _ _ _ 17 (Array.replicate 17 false) _ _
  refine tkA (i := 0) (oi := ⟨some 22, _, _, _, _, _⟩) (v := .pointer (some ⟨b3, 0, none⟩)) hSs ?_
  try go_frame
  refine tkA (i := 1) (oi := ⟨some 23, _, _, _, _, _⟩) (v := .int .i64 1) hSs ?_
  try go_frame
  refine tkA (i := 2) (oi := ⟨some 24, _, _, _, _, _⟩) (v := .pointer (some ⟨b3, 1, none⟩)) hSs ?_
  try go_frame
  refine tkA (i := 3) (oi := ⟨some 25, _, _, _, _, _⟩) (v := .int .i64 n') hSs ?_
  try go_frame
  refine tkA (i := 4) (oi := ⟨some 26, _, _, _, _, _⟩) (v := .pointer (some ⟨b3, 2, none⟩)) hSs ?_
  try go_frame
  refine tkA (i := 5) (oi := ⟨some 27, _, _, _, _, _⟩) (v := .string s) hSs ?_
  try go_frame
  refine tkA (i := 7) (oi := ⟨some 29, _, _, _, _, _⟩) (v := .pointer (some ⟨b3, 3, none⟩)) hSs ?_
  try go_frame
  refine tkA (i := 8) (oi := ⟨some 30, _, _, _, _, _⟩) (v := .slice A 0 c) hSs ?_
  try go_frame
  refine tkB (i := 9) (oi := ⟨some 31, _, _, _, _, _⟩) (v := .int .i64 b) hSs ?_
  try go_frame
  refine tkA (i := 10) (oi := ⟨some 32, _, _, _, _, _⟩) (v := .agg #[.int .i64 1, .int .i64 n', .string s, .slice A 0 c]) hSs ?_
  try go_frame
  refine tkB (i := 13) (oi := ⟨some 35, _, _, _, _, _⟩) (v := (.func (.func K) #[] cap)) hSs ?_
  try go_frame
  refine wpAnyK_one (i := 6) rfl rfl (by kernel_rfl) (fun K hK => ?_)
  go_simp
  refine (HCL.out _ (hb_1.drew) ).mono ?_
  rintro e u_2 ⟨rfl, hq_2⟩
  have hb_2 := (hb_1.drew).trans (hq_2.mono (hb_1.drew).size)
  have l6_2 := (l6.drew).below hq_2 l6.lt
  refine hK.out _ _ (fun _ => HS.out _ hb_2) (fun hS9 => ?_)
  have hS_2 := hS9 (by decide)
  clear hK K hS9
  try go_frame
  refine wpAnyK_one (i := 11) rfl rfl (by kernel_rfl) (fun K hK => ?_)
  go_simp
  refine (HBI.out _ hb_2 ).mono ?_
  rintro e u_3 ⟨rfl, hq_3⟩
  have hb_3 := hb_2.trans (hq_3.mono hb_2.size)
  have l6_2_3 := l6_2.below hq_3 l6_2.lt
  refine hK.out _ _ (fun _ => HS.out _ hb_3) (fun hS9 => ?_)
  have hS_3 := hS9 (by decide)
  clear hK K hS9
  try go_frame
  refine tkA (i := 12) (oi := ⟨some 34, _, _, _, _, _⟩) (v := .int .i64 (b + mo)) hS_3 ?_
  try go_frame
  refine wpAnyK_one (i := 14) rfl rfl (by kernel_rfl) (fun K hK => ?_)
  have hX_4 := hb_3.size
  go_simp
  refine (HAL.out _ hb_3 ).mono ?_
  rintro e u_4 ⟨A2_4, c2_4, rfl, hT_4, hq_4⟩
  have hb_4 := hb_3.trans (hq_4.mono hb_3.size)
  have l6_2_3_4 := l6_2_3.below hq_4 l6_2_3.lt
  refine hK.out _ _ (fun _ => HS.out _ hb_4) (fun hS9 => ?_)
  have hS_4 := hS9 (by decide)
  clear hK K hS9
  try go_frame
  refine tkA (i := 15) (oi := ⟨some 37, _, _, _, _, _⟩) (v := .agg #[.int .i64 1, .int .i64 n', .string s, .slice A2_4 0 (capF 0 c2_4)]) hS_4 ?_
  try go_frame
  refine wpAnyK_one (i := 16) rfl rfl (by kernel_rfl) (fun K hK => ?_)
  have hz_5 := hb_4.size
  have hT9_5 : ELIn u_4 (fun g => w.heap.size + 2 ≤ g) (chEL F [] (b + mo)) A2_4 0 := ELIn.keep _ hT_4 fun g j hX _ => ⟨rfl, by have h9 : _ ≤ g := hX; omega⟩
  refine wp_store_as (F := fun W9 => Below w.heap.size w W9 ∧ Lies W9 b6 24 #[.int .i64 1, .int .i64 n', .string s, .slice A2_4 0 (capF 0 c2_4)] ∧ ELIn W9 (fun g => w.heap.size + 2 ≤ g) (chEL F [] (b + mo)) A2_4 0) _ _ _ rfl b6 0 #[.int .i64 1, .int .i64 n', .string s, .slice A2_4 0 (capF 0 c2_4)] rfl rfl (lies_is l6_2_3_4 rfl) (by kernel_rfl) (by simp [Value.oneCell']) ⟨below_cells (HB8.out.trans (hb_4.mono HB8.out.size)) (by omega) _ _, lies_set4 l6_2_3_4 _ _ _ _, elin_offs _ hT9_5 (fun h => by have h9 : _ ≤ b6 := h; omega) _ _⟩ (fun W_5 hF_5 => ?_)
  refine hK.out _ _ (fun h => absurd rfl h) (fun _ => ?_)
  clear hK K
  try simp only [Act.put, List.setIfInBounds_toArray]
  refine wpAnyK_done (by kernel_rfl) ?_ _
  obtain ⟨f1, f2, f3⟩ := hF_5
  have f4 := f2.cell 0
  have f5 := f2.cell 1
  have f6 := f2.cell 2
  have f7 := f2.cell 3
  simp at f4 f5 f6 f7
  go_wp2_with fail
  refine bodyPost_ret (res_term (p := 6) Tryz.results59 rfl f2) rfl ⟨A2_4, c2_4, ?_, ?_, f1⟩
  ·rw [HF.out]; rfl
  ·rw [HF.out]
   exact ein_mk (by omega) HN.out.1 HN.out.2 (by simp) (by rw [ELIn]; trivial)
set_option maxHeartbeats 4000000 in
theorem ch_node (K : Nat) (cap : Array Value) (F : Int → ByteArray → Int → Te) (w0 : World)
  (k n : Int) (s : ByteArray) (l : List Te) (A : Option Addr) (c : Nat) (b mo : Int) (w : World) (hw : Below w0.heap.size w0 w) (hk : k ≠ 1) (hI : EIn w Any (.node k n s l) A) (hsz : l.length ≤ 1000000000000)
  (hmo : moreE k n = mo) (h0 : -9223372036854775808 ≤ b + mo) (h1 : b + mo ≤ 9223372036854775807) (hc : ∀ t ∈ l, ChOk (.func (.func K) #[] cap) F w0 t (b + mo)) :
  Calls Tryz.prog 59 #[.agg #[.int .i64 k, .int .i64 n, .string s, .slice A l.length c], .int .i64 b, .func (.func K) #[] cap] w (GivesE (.node k n s (chEL F l (b + mo))) w) := by
 rw [EIn] at hI
 obtain ⟨⟨hs, hn0, hn1⟩, hlen, hI⟩ := hI
 obtain ⟨W, hW⟩ : ∃ W, W = (w.alloc (.cells #[.int .i64 k, .int .i64 n, .string s, .slice A l.length c] 24)).alloc (.cells #[.int .i64 0, .int .i64 0, .string ⟨#[]⟩, .slice none 0 0] 24) := ⟨_, rfl⟩
 have hb8 : Below w.heap.size w W := by rw [hW]; exact ((Below.refl _ w).alloc (Nat.le_refl _) _).alloc (by simp) _
 have l3 : Lies W w.heap.size 24 #[.int .i64 k, .int .i64 n, .string s, .slice A l.length c] := by rw [hW]; exact (Lies.new w _ _).old _
 have l6 : Lies W (w.heap.size + 1) 24 #[.int .i64 0, .int .i64 0, .string ⟨#[]⟩, .slice none 0 0] := by
  rw [hW]; simpa using Lies.new (w.alloc (.cells #[.int .i64 k, .int .i64 n, .string s, .slice A l.length c] 24)) 24 #[.int .i64 0, .int .i64 0, .string ⟨#[]⟩, .slice none 0 0]
 have hk1 : (k == 1) = false := by simpa using hk
 obtain ⟨m, hm⟩ : ∃ m, m = l.length := ⟨_, rfl⟩
 have HI := Lib.hid hI
 have HC := Lib.hid hc
 have HM := Lib.hid hm
 rw [← hm] at l3 hsz hlen hW ⊢
 clear hI hc hm hk
 go_enter Tryz.func59, Tryz.ntmps59
 go_upto_region 6 with fail
 rw [← hW]
 clear hW
 generalize hV : W = V8 at l3 l6 hb8 ⊢
 clear hV W
 have hz8 := l6.lt
 have HCL : Hid (∀ X, Below V8.heap.size V8 X → Calls Tryz.prog 88 #[.string s] X fun e w' => e = .returned (.string s) ∧ Below X.heap.size X w') := Lib.hid fun X _ => clone_any s X (by omega)
 have HBI : Hid (∀ X, Below V8.heap.size V8 X → Calls Tryz.prog 90 #[.agg #[.int .i64 k, .int .i64 n, .string s, .slice A m c]] X fun e w' => e = .returned (.int .i64 mo) ∧ Below X.heap.size X w') := Lib.hid fun X _ => by rw [← hmo]; exact binders_any k n s A m c X
 have HAL : Hid (∀ X, Below V8.heap.size V8 X → Calls Tryz.prog 89 #[.slice A m c, .int .i64 (b + mo), .func (.func K) #[] cap] X fun e w' => ∃ A' c', e = .returned (.slice A' m (capF m c')) ∧ ELIn w' (fun g => X.heap.size ≤ g) (chEL F l (b + mo)) A' 0 ∧ Below X.heap.size X w') := Lib.hid fun X hX => by
  have hX2 : Below w.heap.size w X := hb8.trans (hX.mono hb8.size)
  have h := chAll_any (.func (.func K) #[] cap) F w0 l A c (b + mo) X (by rw [← HM.out]; exact hsz) (ELIn.keep _ HI.out fun g j _ hlt => ⟨hX2.cell (p := ⟨g, j, none⟩) hlt, trivial⟩) (hw.trans (hX2.mono hw.size)) HC.out
  rw [← HM.out] at h
  exact h
 obtain ⟨b3, hb3⟩ : ∃ b3, b3 = w.heap.size := ⟨_, rfl⟩
 obtain ⟨b6, hb6⟩ : ∃ b6, b6 = w.heap.size + 1 := ⟨_, rfl⟩
 rw [← hb3] at l3
 rw [← hb6] at l6
 rw [← hb6, ← hb3]
 have e31 : b3 ≤ w.heap.size := by omega
 have e32 : w.heap.size ≤ b3 := by omega
 have e61 : b6 ≤ w.heap.size + 1 := by omega
 have e62 : w.heap.size + 1 ≤ b6 := by omega
 clear hb3 hb6
 have HW := Lib.hid hw
 clear hw hmo hk1
 have HS : Hid (∀ V', Below V8.heap.size V8 V' → (fun V' : World => (V'.cell? ⟨b3, 0, none⟩ = some (.int .i64 k) ∧ V'.cell? ⟨b3, 1, none⟩ = some (.int .i64 n) ∧ V'.cell? ⟨b3, 2, none⟩ = some (.string s) ∧ V'.cell? ⟨b3, 3, none⟩ = some (.slice A m c))) V') := Lib.hid fun V' h =>
  ⟨(h.cell (p := ⟨b3, 0, none⟩) l3.lt).trans (l3.cell 0), (h.cell (p := ⟨b3, 1, none⟩) l3.lt).trans (l3.cell 1), (h.cell (p := ⟨b3, 2, none⟩) l3.lt).trans (l3.cell 2), (h.cell (p := ⟨b3, 3, none⟩) l3.lt).trans (l3.cell 3)⟩
 have HB8 := Lib.hid hb8
 have HL3 := Lib.hid l3
 have hs8 := hb8.size
 clear hb8 l3
 have hb_1 : Below V8.heap.size V8 V8 := Below.refl _ _
 refine wp_region_K (S := (fun V' : World => (V'.cell? ⟨b3, 0, none⟩ = some (.int .i64 k) ∧ V'.cell? ⟨b3, 1, none⟩ = some (.int .i64 n) ∧ V'.cell? ⟨b3, 2, none⟩ = some (.string s) ∧ V'.cell? ⟨b3, 3, none⟩ = some (.slice A m c)))) 16 rfl (HS.out _ hb_1.drew) (fun hSs => ?_)
 change wpAnyK _ _ _ _ _ _ 17 (Array.replicate 17 false) _ _
 refine tkA (i := 0) (oi := ⟨some 22, _, _, _, _, _⟩) (v := .pointer (some ⟨b3, 0, none⟩)) hSs ?_
 try go_frame
 refine tkA (i := 1) (oi := ⟨some 23, _, _, _, _, _⟩) (v := .int .i64 k) hSs ?_
 try go_frame
 refine tkA (i := 2) (oi := ⟨some 24, _, _, _, _, _⟩) (v := .pointer (some ⟨b3, 1, none⟩)) hSs ?_
 try go_frame
 refine tkA (i := 3) (oi := ⟨some 25, _, _, _, _, _⟩) (v := .int .i64 n) hSs ?_
 try go_frame
 refine tkA (i := 4) (oi := ⟨some 26, _, _, _, _, _⟩) (v := .pointer (some ⟨b3, 2, none⟩)) hSs ?_
 try go_frame
 refine tkA (i := 5) (oi := ⟨some 27, _, _, _, _, _⟩) (v := .string s) hSs ?_
 try go_frame
 refine tkA (i := 7) (oi := ⟨some 29, _, _, _, _, _⟩) (v := .pointer (some ⟨b3, 3, none⟩)) hSs ?_
 try go_frame
 refine tkA (i := 8) (oi := ⟨some 30, _, _, _, _, _⟩) (v := .slice A m c) hSs ?_
 try go_frame
 refine tkB (i := 9) (oi := ⟨some 31, _, _, _, _, _⟩) (v := .int .i64 b) hSs ?_
 try go_frame
 refine tkA (i := 10) (oi := ⟨some 32, _, _, _, _, _⟩) (v := .agg #[.int .i64 k, .int .i64 n, .string s, .slice A m c]) hSs ?_
 try go_frame
 refine tkB (i := 13) (oi := ⟨some 35, _, _, _, _, _⟩) (v := (.func (.func K) #[] cap)) hSs ?_
 try go_frame
 refine wpAnyK_one (i := 6) rfl rfl (by kernel_rfl) (fun K hK => ?_)
 go_simp
 refine (HCL.out _ (hb_1.drew) ).mono ?_
 rintro e u_2 ⟨rfl, hq_2⟩
 have hb_2 := (hb_1.drew).trans (hq_2.mono (hb_1.drew).size)
 have l6_2 := (l6.drew).below hq_2 l6.lt
 refine hK.out _ _ (fun _ => HS.out _ hb_2) (fun hS9 => ?_)
 have hS_2 := hS9 (by decide)
 clear hK K hS9
 try go_frame
 refine wpAnyK_one (i := 11) rfl rfl (by kernel_rfl) (fun K hK => ?_)
 go_simp
 refine (HBI.out _ hb_2 ).mono ?_
 rintro e u_3 ⟨rfl, hq_3⟩
 have hb_3 := hb_2.trans (hq_3.mono hb_2.size)
 have l6_2_3 := l6_2.below hq_3 l6_2.lt
 refine hK.out _ _ (fun _ => HS.out _ hb_3) (fun hS9 => ?_)
 have hS_3 := hS9 (by decide)
 clear hK K hS9
 try go_frame
 refine tkA (i := 12) (oi := ⟨some 34, _, _, _, _, _⟩) (v := .int .i64 (b + mo)) hS_3 ?_
 try go_frame
 refine wpAnyK_one (i := 14) rfl rfl (by kernel_rfl) (fun K hK => ?_)
 have hX_4 := hb_3.size
 go_simp
 refine (HAL.out _ hb_3 ).mono ?_
 rintro e u_4 ⟨A2_4, c2_4, rfl, hT_4, hq_4⟩
 have hb_4 := hb_3.trans (hq_4.mono hb_3.size)
 have l6_2_3_4 := l6_2_3.below hq_4 l6_2_3.lt
 refine hK.out _ _ (fun _ => HS.out _ hb_4) (fun hS9 => ?_)
 have hS_4 := hS9 (by decide)
 clear hK K hS9
 try go_frame
 refine tkA (i := 15) (oi := ⟨some 37, _, _, _, _, _⟩) (v := .agg #[.int .i64 k, .int .i64 n, .string s, .slice A2_4 m (capF m c2_4)]) hS_4 ?_
 try go_frame
 refine wpAnyK_one (i := 16) rfl rfl (by kernel_rfl) (fun K hK => ?_)
 have hz_5 := hb_4.size
 have hT9_5 : ELIn u_4 (fun g => w.heap.size + 2 ≤ g) (chEL F l (b + mo)) A2_4 0 := ELIn.keep _ hT_4 fun g j hX _ => ⟨rfl, by have h9 : _ ≤ g := hX; omega⟩
 refine wp_store_as (F := fun W9 => Below w.heap.size w W9 ∧ Lies W9 b6 24 #[.int .i64 k, .int .i64 n, .string s, .slice A2_4 m (capF m c2_4)] ∧ ELIn W9 (fun g => w.heap.size + 2 ≤ g) (chEL F l (b + mo)) A2_4 0) _ _ _ rfl b6 0 #[.int .i64 k, .int .i64 n, .string s, .slice A2_4 m (capF m c2_4)] rfl rfl (lies_is l6_2_3_4 rfl) (by kernel_rfl) (by simp [Value.oneCell']) ⟨below_cells (HB8.out.trans (hb_4.mono HB8.out.size)) (by omega) _ _, lies_set4 l6_2_3_4 _ _ _ _, elin_offs _ hT9_5 (fun h => by have h9 : _ ≤ b6 := h; omega) _ _⟩ (fun W_5 hF_5 => ?_)
 refine hK.out _ _ (fun h => absurd rfl h) (fun _ => ?_)
 clear hK K
 try simp only [Act.put, List.setIfInBounds_toArray]
 refine wpAnyK_done (by kernel_rfl) ?_ _
 obtain ⟨f1, f2, f3⟩ := hF_5
 have f4 := f2.cell 0
 have f5 := f2.cell 1
 have f6 := f2.cell 2
 have f7 := f2.cell 3
 simp at f4 f5 f6 f7
 go_wp2_with fail
 refine bodyPost_ret (res_term (p := 6) Tryz.results59 rfl f2) rfl ⟨A2_4, c2_4, ?_, ?_, f1⟩
 ·have hm := HM.out
  rw [ev]
  simp only [Te.kind, Te.n, Te.name, Te.parts, chEL_length]
  rw [← hm]
  try rfl
 ·exact ein_mk hs hn0 hn1 (by rw [chEL_length, ← HM.out]; omega) (ELIn.keep _ f3 fun g j hX _ => ⟨rfl, by have h9 : _ ≤ g := hX; omega⟩)
theorem ch_any (K : Nat) (cap : Array Value) (F : Int → ByteArray → Int → Te) (w0 : World) (hen : ∀ args w, (callFunc K args).run Tryz.prog w = .ok (.enter K args) w) (hcl : ClosE K cap F w0) (d : Nat) :
  ∀ (t : Te) (b : Int), depthE t ≤ d → d ≤ 12000 → sizeE t ≤ 1000000000000 → tameE 1099511627776 1099511627776 t → -(1099511627776 * (32000 - (d : Int))) ≤ b → b ≤ 1099511627776 * (32000 - (d : Int)) → ChOk (.func (.func K) #[] cap) F w0 t b := by
 induction d with
 | zero => intro t b h; have := depthE_pos t; omega
 | succ d ih =>
  intro t b hd hd4 hs ht h0 h1 A c W hW hI
  obtain ⟨k, n, s, l⟩ := t
  rw [tameE] at ht
  rw [depthE] at hd
  rw [sizeE] at hs
  have hlen := sizeEL_len l
  simp only [ev, Te.kind, Te.n, Te.name, Te.parts]
  by_cases hk : k = 1
  ·subst hk
   have ht1 := ht.1 rfl
   obtain rfl := ht1.2.2
   rw [chE, if_pos rfl]
   rw [EIn] at hI
   exact ch_var K cap F w0 hen hcl n s A _ b W hW hI.1.1 ht1.1 ht1.2.1 (by omega) (by omega)
  ·have hm : -1099511627776 ≤ moreE k n ∧ moreE k n ≤ 1099511627776 := by
    rw [moreE]
    split
    ·omega
    ·split
     ·rename_i h6; exact ht.2.1 h6
     ·omega
   rw [chE, if_neg hk]
   refine ch_node K cap F w0 k n s l A _ b (moreE k n) W hW hk hI (by omega) rfl (by omega) (by omega) fun t htl => ?_
   have h5 := depthEL_mem l t htl
   have h6 := sizeEL_mem l t htl
   exact ih t _ (by omega) (by omega) (by omega) (tameEL_mem l t htl ht.2.2) (by omega) (by omega)
theorem res_term2 {fn : Func} {p q : Tmp} (h : fn.results = #[.cell p 24, .tmp q]) {tmps : Array Value} {g : Nat} {a b c d : Value} {w : World} (hp : tmps.getD p undef = .pointer (some ⟨g, 0, none⟩)) (L : Lies w g 24 #[a, b, c, d]) :
  (results fn tmps).run Tryz.prog w = .ok (.tuple #[.agg #[a, b, c, d], tmps.getD q undef]) w := by
 have hl := run_loadVar_row (P := Tryz.prog) w g 24 24 #[a, b, c, d] (0, 0) _ L Tryz.underlying24 rfl (by kernel_rfl)
 have hp' : tmps[p]?.getD undef = .pointer (some ⟨g, 0, none⟩) := by simpa using hp
 simp only [results, h]
 simp [hp', asAddr, hl]
theorem below2_new {w : World} (o o' : Obj) : Below w.heap.size w ((w.alloc o).alloc o') := ((Below.refl _ w).alloc (Nat.le_refl _) _).alloc (by simp) _
theorem gives_all {u : Te} {A2 : Option Addr} {c2 : Nat} {w W w2 : World} {g : Nat} (hT : EIn w2 (fun b => W.heap.size ≤ b) u A2) (h0 : w.heap.size ≤ g) (h1 : g < W.heap.size) (hb : Below w.heap.size w w2) (a b c d : Value) :
  GivesE u w (.returned (ev u A2 c2)) ((((w2.setCell ⟨g, 0, none⟩ a).setCell ⟨g, 1, none⟩ b).setCell ⟨g, 2, none⟩ c).setCell ⟨g, 3, none⟩ d) := by
 refine ⟨A2, c2, rfl, EIn.keep _ hT fun g' j hX _ => ?_, Below.all hb h0 _ _ _ _⟩
 have hX' : W.heap.size ≤ g' := hX
 have hne : ∀ q, (⟨g, q, none⟩ : Addr) ≠ ⟨g', j, none⟩ := fun q e => by injection e with e; omega
 refine ⟨?_, by omega⟩
 rw [World.cell?_setCell_other _ _ _ _ (hne _), World.cell?_setCell_other _ _ _ _ (hne _), World.cell?_setCell_other _ _ _ _ (hne _), World.cell?_setCell_other _ _ _ _ (hne _)]
set_option maxHeartbeats 1000000 in
theorem up1_any (by_ from_ : Int) (gf gb : Nat) (w0 : World) (hgf : gf < w0.heap.size) (hgb : gb < w0.heap.size) (cf : w0.cell? ⟨gf, 0, none⟩ = some (.int .i64 from_)) (cb : w0.cell? ⟨gb, 0, none⟩ = some (.int .i64 by_))
  (h0 : -36028797018963968 ≤ by_) (h1 : by_ ≤ 36028797018963968) (h2 : -36028797018963968 ≤ from_) (h3 : from_ ≤ 36028797018963968) :
  ClosE 60 #[.pointer (some ⟨gf, 0, none⟩), .pointer (some ⟨gb, 0, none⟩)] (fun n s b => upF by_ n s (from_ + b)) w0 := by
 intro n s A c b W hW hs n0 n1 b0 b1
 have c1 := (hW.cell (p := ⟨gf, 0, none⟩) hgf).trans cf
 have c2 := (hW.cell (p := ⟨gb, 0, none⟩) hgb).trans cb
 have l2 : gf < W.heap.size := by have := hW.size; omega
 have l3 : gb < W.heap.size := by have := hW.size; omega
 clear hW cf cb hgf hgb
 show Calls Tryz.prog 60 #[.agg #[.int .i64 1, .int .i64 n, .string s, .slice A 0 c], .int .i64 b, .pointer (some ⟨gf, 0, none⟩), .pointer (some ⟨gb, 0, none⟩)] W _
 have hl : ∀ x : Int, Lies ((W.alloc (.cells #[.int .i64 1, .int .i64 x, .string s, .slice A 0 c] 24)).alloc (.cells #[.int .i64 1, .int .i64 x, .string s, .slice A 0 c] 24)) (W.heap.size + 1) 24 #[.int .i64 1, .int .i64 x, .string s, .slice A 0 c] := fun x => by
  simpa using Lies.new (W.alloc (.cells #[.int .i64 1, .int .i64 x, .string s, .slice A 0 c] 24)) 24 #[.int .i64 1, .int .i64 x, .string s, .slice A 0 c]
 have HL := Lib.hid hl
 clear hl
 by_cases hc : from_ + b ≤ n
 ·go_enter Tryz.func60, Tryz.ntmps60
  go_wp2_with fail
  exact bodyPost_ret (res_term2 (p := 6) (q := 7) Tryz.results60 rfl (HL.out _)) rfl ⟨below2_new _ _, .inr ⟨_, rfl, ⟨by omega, by omega⟩, by simp only [upF]; rw [if_pos hc]⟩⟩
 ·go_enter Tryz.func60, Tryz.ntmps60
  go_wp2_with fail
  exact bodyPost_ret (res_term2 (p := 6) (q := 7) Tryz.results60 rfl (HL.out _)) rfl ⟨below2_new _ _, .inr ⟨_, rfl, ⟨by omega, by omega⟩, by simp only [upF]; rw [if_neg (by omega)]⟩⟩
set_option maxHeartbeats 1000000 in
theorem up_any (t : Te) (A : Option Addr) (c : Nat) (by_ from_ : Int) (w : World) (hI : EIn w Any t A) (hd : depthE t ≤ 12000) (hs : sizeE t ≤ 1000000000000) (ht : tameE 1099511627776 1099511627776 t)
  (h0 : -36028797018963968 ≤ by_) (h1 : by_ ≤ 36028797018963968) (h2 : -36028797018963968 ≤ from_) (h3 : from_ ≤ 36028797018963968) :
  Calls Tryz.prog 35 #[ev t A c, .int .i64 by_, .int .i64 from_] w (GivesE (upE t by_ from_) w) := by
 obtain ⟨k, n, s, l⟩ := t
 show Calls Tryz.prog 35 #[.agg #[.int .i64 k, .int .i64 n, .string s, .slice A l.length (capF l.length c)], .int .i64 by_, .int .i64 from_] w _
 obtain ⟨W, hW⟩ : ∃ W, W = (((w.alloc (.cells #[.int .i64 k, .int .i64 n, .string s, .slice A l.length (capF l.length c)] 24)).alloc (.cells #[.int .i64 by_] 3)).alloc (.cells #[.int .i64 from_] 3)).alloc (.cells #[.int .i64 0, .int .i64 0, .string ⟨#[]⟩, .slice none 0 0] 24) := ⟨_, rfl⟩
 have hb : Below w.heap.size w W := by rw [hW]; exact ((((Below.refl _ w).alloc (Nat.le_refl _) _).alloc (by simp) _).alloc (by simp; omega) _).alloc (by simp; omega) _
 have hz : W.heap.size = w.heap.size + 4 := by rw [hW]; simp
 have lb : Lies W (w.heap.size + 1) 3 #[.int .i64 by_] := by
  rw [hW]; refine Lies.old (Lies.old ?_ _) _; simpa using Lies.new (w.alloc (.cells #[.int .i64 k, .int .i64 n, .string s, .slice A l.length (capF l.length c)] 24)) 3 #[.int .i64 by_]
 have lf : Lies W (w.heap.size + 1 + 1) 3 #[.int .i64 from_] := by
  rw [hW]; refine Lies.old ?_ _; simpa using Lies.new ((w.alloc (.cells #[.int .i64 k, .int .i64 n, .string s, .slice A l.length (capF l.length c)] 24)).alloc (.cells #[.int .i64 by_] 3)) 3 #[.int .i64 from_]
 have lz : Lies W (w.heap.size + 1 + 1 + 1) 24 #[.int .i64 0, .int .i64 0, .string ⟨#[]⟩, .slice none 0 0] := by
  rw [hW]; simpa using Lies.new (((w.alloc (.cells #[.int .i64 k, .int .i64 n, .string s, .slice A l.length (capF l.length c)] 24)).alloc (.cells #[.int .i64 by_] 3)).alloc (.cells #[.int .i64 from_] 3)) 24 #[.int .i64 0, .int .i64 0, .string ⟨#[]⟩, .slice none 0 0]
 have hcl := up1_any by_ from_ (w.heap.size + 1 + 1) (w.heap.size + 1) W lf.lt lb.lt (lf.cell 0) (lb.cell 0) h0 h1 h2 h3
 have hch := ch_any _ _ _ W (enters_of Tryz.func60 (by kernel_rfl) rfl) hcl (depthE (.node k n s l)) (.node k n s l) 0 (Nat.le_refl _) hd hs ht (by omega) (by omega) A c W (Below.refl _ _) (EIn.below _ hI hb (Nat.le_refl _))
 rw [up_from] at hch
 have HCH := Lib.hid hch
 have HU : Hid (GivesE (upE (.node k n s l) by_ from_) w = GivesE (upE (.node k n s l) by_ from_) w) := Lib.hid rfl
 generalize upE (.node k n s l) by_ from_ = U at HCH
 clear hch hcl ht hs hd hI lb lf HU
 rw [hW] at HCH
 go_enter Tryz.func35, Tryz.ntmps35
 go_wp2_with fail
 refine HCH.out.mono ?_
 rw [← hW]
 clear HCH hW
 rintro e w2 ⟨A2, c2, rfl, hT, hb2⟩
 obtain ⟨uk, un, us, ul⟩ := U
 simp only [ev, Te.kind, Te.n, Te.name, Te.parts]
 have lz2 := lz.below hb2 lz.lt
 have hbw := hb.trans (hb2.mono hb.size)
 obtain ⟨⟨x0, x1, x2, x3⟩, g0, g1, g2, g3⟩ := lz2.four
 have HT := Lib.hid hT
 clear hT hb2 hb
 go_wp2_with fail
 exact bodyPost_ret (res_term (p := 6) Tryz.results35 rfl (lz2.all _ _ _ _)) rfl (gives_all HT.out (by omega) lz.lt hbw _ _ _ _)
set_option maxHeartbeats 1000000 in
theorem put1_any (k : Int) (u : Te) (Au : Option Addr) (cu gk gs : Nat) (w0 : World) (hgk : gk < w0.heap.size) (hgs : gs < w0.heap.size) (ck : w0.cell? ⟨gk, 0, none⟩ = some (.int .i64 k))
  (ls : Lies w0 gs 24 #[.int .i64 u.kind, .int .i64 u.n, .string u.name, .slice Au u.parts.length (capF u.parts.length cu)]) (hI : EIn w0 Any u Au)
  (hd : depthE u ≤ 12000) (hs : sizeE u ≤ 1000000000000) (ht : tameE 1099511627776 1099511627776 u) (h0 : -36028797018963968 ≤ k) (h1 : k ≤ 36028797018963968) :
  ClosE 91 #[.pointer (some ⟨gk, 0, none⟩), .pointer (some ⟨gs, 0, none⟩)] (putF k u) w0 := by
 intro n s A c b W hW hss n0 n1 b0 b1
 have c1 := (hW.cell (p := ⟨gk, 0, none⟩) hgk).trans ck
 have l2 : gk < W.heap.size := by have := hW.size; omega
 have ls1 := ls.below hW hgs
 have l3 := ls1.lt
 have hb2 : Below W.heap.size W ((W.alloc (.cells #[.int .i64 1, .int .i64 n, .string s, .slice A 0 c] 24)).alloc (.cells #[.int .i64 0, .int .i64 0, .string ⟨#[]⟩, .slice none 0 0] 24)) := below2_new _ _
 have hup := up_any u Au cu b 0 ((W.alloc (.cells #[.int .i64 1, .int .i64 n, .string s, .slice A 0 c] 24)).alloc (.cells #[.int .i64 0, .int .i64 0, .string ⟨#[]⟩, .slice none 0 0] 24)) (EIn.below _ (EIn.below _ hI hW (Nat.le_refl _)) hb2 (Nat.le_refl _)) hd hs ht (by omega) (by omega) (by omega) (by omega)
 have lz : Lies ((W.alloc (.cells #[.int .i64 1, .int .i64 n, .string s, .slice A 0 c] 24)).alloc (.cells #[.int .i64 0, .int .i64 0, .string ⟨#[]⟩, .slice none 0 0] 24)) (W.heap.size + 1) 24 #[.int .i64 0, .int .i64 0, .string ⟨#[]⟩, .slice none 0 0] := by
  simpa using Lies.new (W.alloc (.cells #[.int .i64 1, .int .i64 n, .string s, .slice A 0 c] 24)) 24 #[.int .i64 0, .int .i64 0, .string ⟨#[]⟩, .slice none 0 0]
 have hl : ∀ x : Int, Lies ((W.alloc (.cells #[.int .i64 1, .int .i64 x, .string s, .slice A 0 c] 24)).alloc (.cells #[.int .i64 1, .int .i64 x, .string s, .slice A 0 c] 24)) (W.heap.size + 1) 24 #[.int .i64 1, .int .i64 x, .string s, .slice A 0 c] := fun x => by
  simpa using Lies.new (W.alloc (.cells #[.int .i64 1, .int .i64 x, .string s, .slice A 0 c] 24)) 24 #[.int .i64 1, .int .i64 x, .string s, .slice A 0 c]
 have HL := Lib.hid hl
 have HU := Lib.hid hup
 have HZ := Lib.hid lz
 have HB := Lib.hid hb2
 have s4 := ls1.four.1
 have hz : ((W.alloc (.cells #[.int .i64 1, .int .i64 n, .string s, .slice A 0 c] 24)).alloc (.cells #[.int .i64 0, .int .i64 0, .string ⟨#[]⟩, .slice none 0 0] 24)).heap.size = W.heap.size + 2 := by simp
 have HZS := Lib.hid hz
 clear hl hup lz hb2 hz hW ck ls hI hd hs ht ls1 hgk hgs
 obtain ⟨uk, un, us, ul⟩ := u
 simp only [Te.kind, Te.n, Te.name, Te.parts] at s4
 obtain ⟨s0, s1, s2, s3⟩ := s4
 show Calls Tryz.prog 91 #[.agg #[.int .i64 1, .int .i64 n, .string s, .slice A 0 c], .int .i64 b, .pointer (some ⟨gk, 0, none⟩), .pointer (some ⟨gs, 0, none⟩)] W _
 rcases (by omega : n = k + b ∨ k + b < n ∨ n < k + b) with hc | hc | hc
 ·have HC := Lib.hid hc
  have hc1 : (n == k + b) = true := by simp; omega
  clear hc
  go_enter Tryz.func91, Tryz.ntmps91
  go_wp2_with fail
  refine HU.out.mono ?_
  rintro e w2 ⟨A2, c2, rfl, hT, hb2⟩
  have HF : Hid (putF k (.node uk un us ul) n s b = upE (.node uk un us ul) b 0) := by
   refine Lib.hid ?_
   rw [putF, if_pos HC.out]
  generalize upE (.node uk un us ul) b 0 = U at HF hT ⊢
  obtain ⟨vk, vn, vs, vl⟩ := U
  simp only [ev, Te.kind, Te.n, Te.name, Te.parts]
  have lz2 := HZ.out.below hb2 HZ.out.lt
  have hbw := HB.out.trans (hb2.mono HB.out.size)
  obtain ⟨⟨x0, x1, x2, x3⟩, g0, g1, g2, g3⟩ := lz2.four
  have HT := Lib.hid hT
  have HW := Lib.hid hbw
  clear hT hb2 hbw
  go_wp2_with fail
  refine bodyPost_ret (res_term2 (p := 6) (q := 7) Tryz.results91 rfl (lz2.all _ _ _ _)) rfl ?_
  obtain ⟨A3, c3, h3, h4, h5⟩ := gives_all (c2 := c2) HT.out (by omega : W.heap.size ≤ W.heap.size + 1) (by have := HZS.out; omega) HW.out (.int .i64 vk) (.int .i64 vn) (.string vs) (.slice A2 vl.length (capF vl.length c2))
  refine ⟨h5, .inl ⟨A2, c2, by rw [HF.out]; rfl, ?_⟩⟩
  rw [HF.out]
  have h6 : A3 = A2 := by injection h3 with h3; injection h3 with h3; simp at h3; exact h3.1.symm
  rw [h6] at h4
  exact h4
 ·have hc1 : (n == k + b) = false := by simp; omega
  go_enter Tryz.func91, Tryz.ntmps91
  go_wp2_with fail
  exact bodyPost_ret (res_term2 (p := 6) (q := 7) Tryz.results91 rfl (HL.out _)) rfl ⟨below2_new _ _, .inr ⟨_, rfl, ⟨by omega, by omega⟩, by rw [putF, if_neg (by omega), if_pos (by omega)]⟩⟩
 ·have hc1 : (n == k + b) = false := by simp; omega
  go_enter Tryz.func91, Tryz.ntmps91
  go_wp2_with fail
  exact bodyPost_ret (res_term2 (p := 6) (q := 7) Tryz.results91 rfl (HL.out _)) rfl ⟨below2_new _ _, .inr ⟨_, rfl, ⟨by omega, by omega⟩, by rw [putF, if_neg (by omega), if_neg (by omega)]⟩⟩
set_option maxHeartbeats 1000000 in
theorem put_any (t u : Te) (A Au : Option Addr) (c cu : Nat) (k : Int) (w : World) (hI : EIn w Any t A) (hd : depthE t ≤ 12000) (hs : sizeE t ≤ 1000000000000) (ht : tameE 1099511627776 1099511627776 t)
  (hIu : EIn w Any u Au) (hdu : depthE u ≤ 12000) (hsu : sizeE u ≤ 1000000000000) (htu : tameE 1099511627776 1099511627776 u) (h0 : -36028797018963968 ≤ k) (h1 : k ≤ 36028797018963968) :
  Calls Tryz.prog 63 #[ev t A c, .int .i64 k, ev u Au cu] w (GivesE (putE t k u) w) := by
 obtain ⟨tk, tn, ts, tl⟩ := t
 obtain ⟨uk, un, us, ul⟩ := u
 show Calls Tryz.prog 63 #[.agg #[.int .i64 tk, .int .i64 tn, .string ts, .slice A tl.length (capF tl.length c)], .int .i64 k, .agg #[.int .i64 uk, .int .i64 un, .string us, .slice Au ul.length (capF ul.length cu)]] w _
 obtain ⟨O1, hO1⟩ : ∃ O, O = Obj.cells #[.int .i64 tk, .int .i64 tn, .string ts, .slice A tl.length (capF tl.length c)] 24 := ⟨_, rfl⟩
 obtain ⟨O2, hO2⟩ : ∃ O, O = Obj.cells #[.int .i64 k] 3 := ⟨_, rfl⟩
 obtain ⟨O3, hO3⟩ : ∃ O, O = Obj.cells #[.int .i64 uk, .int .i64 un, .string us, .slice Au ul.length (capF ul.length cu)] 24 := ⟨_, rfl⟩
 obtain ⟨O4, hO4⟩ : ∃ O, O = Obj.cells #[.int .i64 0, .int .i64 0, .string ⟨#[]⟩, .slice none 0 0] 24 := ⟨_, rfl⟩
 obtain ⟨W, hW⟩ : ∃ W, W = (((w.alloc O1).alloc O2).alloc O3).alloc O4 := ⟨_, rfl⟩
 have hb : Below w.heap.size w W := by rw [hW]; exact ((((Below.refl _ w).alloc (Nat.le_refl _) _).alloc (by simp) _).alloc (by simp; omega) _).alloc (by simp; omega) _
 have hz : W.heap.size = w.heap.size + 4 := by rw [hW]; simp
 have lk : Lies W (w.heap.size + 1) 3 #[.int .i64 k] := by
  rw [hW, hO2]; refine Lies.old (Lies.old ?_ _) _; simpa using Lies.new (w.alloc O1) 3 #[.int .i64 k]
 have lu : Lies W (w.heap.size + 1 + 1) 24 #[.int .i64 uk, .int .i64 un, .string us, .slice Au ul.length (capF ul.length cu)] := by
  rw [hW, hO3]; refine Lies.old ?_ _; simpa using Lies.new ((w.alloc O1).alloc O2) 24 #[.int .i64 uk, .int .i64 un, .string us, .slice Au ul.length (capF ul.length cu)]
 have lz : Lies W (w.heap.size + 1 + 1 + 1) 24 #[.int .i64 0, .int .i64 0, .string ⟨#[]⟩, .slice none 0 0] := by
  rw [hW, hO4]; simpa using Lies.new (((w.alloc O1).alloc O2).alloc O3) 24 #[.int .i64 0, .int .i64 0, .string ⟨#[]⟩, .slice none 0 0]
 have hcl := put1_any k (.node uk un us ul) Au cu (w.heap.size + 1) (w.heap.size + 1 + 1) W lk.lt lu.lt (lk.cell 0) lu (EIn.below _ hIu hb (Nat.le_refl _)) hdu hsu htu h0 h1
 have hch := ch_any _ _ _ W (enters_of Tryz.func91 (by kernel_rfl) rfl) hcl (depthE (.node tk tn ts tl)) (.node tk tn ts tl) 0 (Nat.le_refl _) hd hs ht (by omega) (by omega) A c W (Below.refl _ _) (EIn.below _ hI hb (Nat.le_refl _))
 have hpe : chE (putF k (.node uk un us ul)) (.node tk tn ts tl) 0 = putE (.node tk tn ts tl) k (.node uk un us ul) := rfl
 rw [hpe] at hch
 have HCH := Lib.hid hch
 generalize putE (.node tk tn ts tl) k (.node uk un us ul) = U at HCH
 clear hch hcl ht hs hd hI lk lu hIu hdu hsu htu hpe
 rw [hW, hO1, hO2, hO3, hO4] at HCH
 go_enter Tryz.func63, Tryz.ntmps63
 go_wp2_with fail
 refine HCH.out.mono ?_
 rw [← hO1, ← hO2, ← hO3, ← hO4, ← hW]
 clear HCH hW hO1 hO2 hO3 hO4
 rintro e w2 ⟨A2, c2, rfl, hT, hb2⟩
 obtain ⟨vk, vn, vs, vl⟩ := U
 simp only [ev, Te.kind, Te.n, Te.name, Te.parts]
 have lz2 := lz.below hb2 lz.lt
 have hbw := hb.trans (hb2.mono hb.size)
 obtain ⟨⟨x0, x1, x2, x3⟩, g0, g1, g2, g3⟩ := lz2.four
 have HT := Lib.hid hT
 clear hT hb2 hb
 go_wp2_with fail
 exact bodyPost_ret (res_term (p := 6) Tryz.results63 rfl (lz2.all _ _ _ _)) rfl (gives_all HT.out (by omega) lz.lt hbw _ _ _ _)
theorem ebelow_al {w wr w2 : World} {o : Obj} (hbw : Below w.heap.size w wr) (hb2 : Below (wr.alloc o).heap.size (wr.alloc o) w2) : Below w.heap.size w w2 :=
 (hbw.alloc hbw.size _).trans (hb2.mono (by have := hbw.size; simp; omega))
set_option maxHeartbeats 1000000 in
theorem esize_any (d : Nat) : ∀ (t : Te) (A : Option Addr) (c : Nat) (w : World), depthE t ≤ d → sizeE t ≤ 1000000000000 → EIn w Any t A →
  Calls Tryz.prog 27 #[ev t A c] w fun e w' => e = .returned (.int .i64 (sizeE t)) ∧ Below w.heap.size w w' := by
 induction d with
 | zero => intro t A c w h; have := depthE_pos t; omega
 | succ d ih =>
  intro t A c w hd hs hI
  obtain ⟨k, n, s, l⟩ := t
  have hdL : depthEL l ≤ d := by rw [depthE] at hd; omega
  have hsL : sizeEL l ≤ 1000000000000 := by rw [sizeE] at hs; omega
  have hlen := sizeEL_len l
  have HI := Lib.hid hI
  have HE : Hid (sizeE (.node k n s l) = sizeEL l + 1) := by rw [sizeE]; exact rfl
  clear hI hd hs
  show Calls Tryz.prog 27 #[.agg #[.int .i64 k, .int .i64 n, .string s, .slice A l.length (capF l.length c)]] w _
  generalize capF l.length c = c
  obtain ⟨m, hm⟩ : ∃ m, m = l.length := ⟨_, rfl⟩
  rw [← hm]
  have hm1 : m ≤ l.length := by omega
  have hm2 : l.length ≤ m := by omega
  clear hm
  go_enter Tryz.func27, Tryz.ntmps27
  go_wp2_with fail
  go_loopw [3, 9] (fun v x wr => ∃ i : Nat, i ≤ m ∧ x = .int .i64 i ∧ v = .int .i64 (sizeEL (l.take i) + 1) ∧ Below w.heap.size w wr) (fun _ x _ => m - (intOf x).toNat)
  case atStart => exact ⟨0, by omega, rfl, by simp [sizeEL], (Below.refl _ w).alloc (Nat.le_refl _) _⟩
  case round =>
   obtain ⟨i, hi, rfl, rfl, hbw⟩ := hrel
   have hbs := hbw.size
   have hdt := sizeEL_take l i
   have hdt2 := sizeEL_take l (i + 1)
   by_cases hlt : i < m
   ·have hia : i < l.length := by omega
    obtain ⟨g, o, A', c', ⟨hA, _⟩, d0, d1, d2, d3, hIn⟩ := EIn.part (EIn.below _ HI.out hbw (Nat.le_refl _)) i hia
    subst hA
    have hm3 := depthEL_mem l (l[i]'hia) (List.getElem_mem hia)
    have hm4 := sizeEL_mem l (l[i]'hia) (List.getElem_mem hia)
    have HS : Hid (sizeEL (l.take (i + 1)) = sizeEL (l.take i) + sizeE (l[i]'hia)) := by
     rw [List.take_succ_eq_append_getElem hia]; exact sizeEL_snoc _ _
    simp only [Te.parts] at d0 d1 d2 d3 hIn
    obtain ⟨tr, hu⟩ : ∃ tr, tr = l[i]'hia := ⟨_, rfl⟩
    rw [← hu] at d0 d1 d2 d3 hIn hm3 hm4 HS
    clear hu
    obtain ⟨tk, tn, ts, tl⟩ := tr
    simp only [Te.kind, Te.n, Te.name] at d0 d1 d2 d3
    go_wp2_with fail
    refine (ih (.node tk tn ts tl) A' c' _ (by omega) (by omega) (EIn.below _ hIn ((Below.refl _ wr).alloc (Nat.le_refl _) _) (Nat.le_refl _))).mono ?_
    rintro e w2 ⟨rfl, hb2⟩
    go_wp2_with fail
    go_roundw
    case rel => exact ⟨i + 1, by omega, by go_num, by rw [HS.out]; exact congrArg (Value.int .i64) (by omega), ebelow_al hbw hb2⟩
    case measure => simp [intOf]; omega
   ·go_wp2_with fail
    go_ret
    obtain rfl : i = m := by omega
    refine ⟨?_, hbw⟩
    rw [List.take_of_length_le (by omega)]
    rw [HE.out]
    exact ret_int (by omega)
set_option maxHeartbeats 1000000 in
theorem efew_stop (k n L D : Int) (s : ByteArray) (A : Option Addr) (m c : Nat) (w : World) (h : L < 1 ∨ D < 1) :
  Calls Tryz.prog 18 #[.agg #[.int .i64 k, .int .i64 n, .string s, .slice A m c], .int .i64 L, .int .i64 D] w fun e w' => e = .returned (.int .i64 (-1)) ∧ Below w.heap.size w w' := by
 have hb : Below w.heap.size w (w.alloc (.cells #[.int .i64 k, .int .i64 n, .string s, .slice A m c] 24)) := (Below.refl _ w).alloc (Nat.le_refl _) _
 by_cases h1 : L < 1
 ·clear h
  go_enter Tryz.func18, Tryz.ntmps18
  go_wp2_with fail
  go_ret
  exact ⟨rfl, hb⟩
 ·have h2 : D < 1 := h.resolve_left h1
  clear h
  go_enter Tryz.func18, Tryz.ntmps18
  go_wp2_with fail
  go_ret
  exact ⟨rfl, hb⟩

set_option maxHeartbeats 1000000 in
theorem efew_any (d : Nat) : ∀ (t : Te) (A : Option Addr) (c : Nat) (L D : Int) (w : World), depthE t ≤ d → EIn w Any t A → -1000 ≤ L → L ≤ 100000 → -1000 ≤ D → D ≤ 1000 →
  Calls Tryz.prog 18 #[ev t A c, .int .i64 L, .int .i64 D] w fun e w' => e = .returned (.int .i64 (fewE t L D)) ∧ Below w.heap.size w w' := by
 induction d with
 | zero => intro t A c _ _ w h; have := depthE_pos t; omega
 | succ d ih =>
  intro t A c L D w hd hI hL1 hL2 hD1 hD2
  obtain ⟨k, n, s, l⟩ := t
  have hdL : depthEL l ≤ d := by rw [depthE] at hd; omega
  have hlen : l.length ≤ 140737488351232 := by rw [EIn] at hI; exact hI.2.1
  have HI := Lib.hid hI
  clear hI hd
  show Calls Tryz.prog 18 #[.agg #[.int .i64 k, .int .i64 n, .string s, .slice A l.length (capF l.length c)], .int .i64 L, .int .i64 D] w _
  generalize capF l.length c = c
  by_cases hst : L < 1 ∨ D < 1
  ·refine (efew_stop k n L D s A _ c w hst).mono ?_
   rintro e w' ⟨rfl, hb⟩
   exact ⟨ret_int (by rw [fewE, if_pos hst]), hb⟩
  ·have hL3 : ¬ L < 1 := fun h => hst (.inl h)
   have hD3 : ¬ D < 1 := fun h => hst (.inr h)
   have HE : Hid (fewE (.node k n s l) L D = fewEL l (L - 1) (D - 1)) := by
    show _ = _
    rw [fewE, if_neg hst]
   clear hst
   obtain ⟨m, hm⟩ : ∃ m, m = l.length := ⟨_, rfl⟩
   rw [← hm] at hlen ⊢
   have hm1 : m ≤ l.length := by omega
   have hm2 : l.length ≤ m := by omega
   clear hm
   go_enter Tryz.func18, Tryz.ntmps18
   go_wp2_with fail
   go_loopw [1, 7] (fun v x wr => ∃ (i : Nat) (F : Int), i ≤ m ∧ x = .int .i64 i ∧ v = .int .i64 F ∧ 0 ≤ F ∧ F ≤ 100000 ∧ Hid (fewEL l (L - 1) (D - 1) = fewEL (l.drop i) F (D - 1)) ∧ Below (w.heap.size + 1) (w.alloc (.cells #[.int .i64 k, .int .i64 n, .string s, .slice A m c] 24)) wr) (fun _ x _ => m - (intOf x).toNat)
   case atStart => exact ⟨0, L - 1, by omega, rfl, rfl, by omega, by omega, by exact rfl, Below.refl _ _⟩
   case round =>
    obtain ⟨i, F, hi, rfl, rfl, hF1, hF2, HQ, hbx⟩ := hrel
    have hbw : Below w.heap.size w wr := below_ac (by simpa using hbx)
    have c4 := ((Lies.new w 24 #[.int .i64 k, .int .i64 n, .string s, .slice A m c]).below hbx (by omega)).cell 3
    have hbxs := hbx.size
    simp at c4 hbxs
    by_cases hlt : i < m
    ·have hia : i < l.length := by omega
     obtain ⟨g, o, A', c', ⟨hA, _⟩, d0, d1, d2, d3, hIn⟩ := EIn.part (EIn.below _ HI.out hbw (Nat.le_refl _)) i hia
     subst hA
     have hm3 := depthEL_mem l (l[i]'hia) (List.getElem_mem hia)
     have HS : Hid (fewEL (l.drop i) F (D - 1) = if fewE (l[i]'hia) F (D - 1) < 0 then -1 else fewEL (l.drop (i + 1)) (fewE (l[i]'hia) F (D - 1)) (D - 1)) := by
      show _ = _
      rw [List.drop_eq_getElem_cons hia, fewEL]
     have hfs := fewE_size (l[i]'hia) F (D - 1)
     simp only [Te.parts] at d0 d1 d2 d3 hIn
     obtain ⟨tr, hu⟩ : ∃ tr, tr = l[i]'hia := ⟨_, rfl⟩
     rw [← hu] at d0 d1 d2 d3 hIn hm3 HS hfs
     clear hu
     obtain ⟨tk, tn, ts, tl⟩ := tr
     simp only [Te.kind, Te.n, Te.name] at d0 d1 d2 d3
     obtain ⟨G, hG⟩ : ∃ G, G = fewE (.node tk tn ts tl) F (D - 1) := ⟨_, rfl⟩
     rw [← hG] at HS hfs
     have hih := ih (.node tk tn ts tl) A' c' F (D - 1) wr (by omega) hIn (by omega) (by omega) (by omega) (by omega)
     rw [← hG] at hih
     have HG := Lib.hid hG
     have HIH := Lib.hid hih
     have HFS := Lib.hid hfs
     clear hG hih hfs
     by_cases hneg : G < 0
     ·go_wp2_with fail
      refine HIH.out.mono ?_
      rintro e w2 ⟨rfl, hb2⟩
      go_wp2_with fail
      go_ret
      refine ⟨ret_int ?_, hbw.trans (hb2.mono (by omega))⟩
      rw [HE.out, HQ.out, HS.out, if_pos hneg]
     ·go_wp2_with fail
      refine HIH.out.mono ?_
      rintro e w2 ⟨rfl, hb2⟩
      go_wp2_with fail
      go_roundw
      case rel =>
       have h1 := HFS.out (by omega)
       refine ⟨i + 1, G, by omega, by go_num, rfl, by omega, by omega, ?_, hbx.trans (hb2.mono (by omega))⟩
       show _ = _
       rw [HQ.out, HS.out, if_neg (by omega)]
      case measure => simp [intOf]; omega
    ·go_wp2_with fail
     go_ret
     obtain rfl : i = m := by omega
     refine ⟨ret_int ?_, hbw⟩
     rw [HE.out, HQ.out, List.drop_eq_nil_of_le (by omega), fewEL]

theorem esmall_any (t : Te) (A : Option Addr) (c : Nat) (L : Int) (w : World) (hI : EIn w Any t A) (hL1 : 0 ≤ L) (hL2 : L ≤ 100000) :
  Calls Tryz.prog 9 #[ev t A c, .int .i64 L] w fun e w' => e = .returned (.bool (decide (0 ≤ fewE t L 600))) ∧ Below w.heap.size w w' := by
 obtain ⟨k, n, s, l⟩ := t
 have hF := efew_any (depthE (.node k n s l)) (.node k n s l) A c L 600 (w.alloc (.cells #[.int .i64 k, .int .i64 n, .string s, .slice A l.length (capF l.length c)] 24)) (Nat.le_refl _)
  (EIn.below _ hI ((Below.refl _ w).alloc (Nat.le_refl _) _) (Nat.le_refl _)) (by omega) hL2 (by omega) (by omega)
 have HF := Lib.hid hF
 clear hF hI
 show Calls Tryz.prog 9 #[.agg #[.int .i64 k, .int .i64 n, .string s, .slice A l.length (capF l.length c)], .int .i64 L] w _
 go_enter Tryz.func9, Tryz.ntmps9
 go_wp2_with fail
 refine HF.out.mono ?_
 rintro e w2 ⟨rfl, hb2⟩
 go_wp2_with fail
 go_ret
 exact ⟨rfl, below_ac hb2⟩
theorem sameFL_len : ∀ l l' : List Te, l.length ≠ l'.length → sameEL l l' = false := fun l l' h => by
 cases hq : sameEL l l'
 ·rfl
 ·exact absurd (sameEL_len l l' hq) h
theorem strE_ne {s t : ByteArray} (h : s ≠ t) : ¬ s.toList = t.toList := by
 intro e
 rw [data_list, data_list] at e
 apply h
 obtain ⟨⟨a⟩⟩ := s
 obtain ⟨⟨b⟩⟩ := t
 simp at e
 rw [e]
set_option maxHeartbeats 2000000 in
theorem rsize6_any (d : Nat) : ∀ (t : Te) (A : Option Addr) (c : Nat) (w : World), depthE t ≤ d → sizeE t ≤ 1000000000000 → EIn w Any t A →
  Calls Tryz.prog 29 #[ev t A c] w fun e w' => e = .returned (.int .i64 (sizeE t)) ∧ Below w.heap.size w w' := by
 induction d with
 | zero => intro t A c w h; have := depthE_pos t; omega
 | succ d ih =>
  intro t A c w hd hs hI
  obtain ⟨k, n, s, l⟩ := t
  have hdL : depthEL l ≤ d := by rw [depthE] at hd; omega
  have hsL : sizeEL l + 1 ≤ 1000000000000 := by rw [sizeE] at hs; omega
  have hlen := sizeEL_len l
  have HI := Lib.hid hI
  have HE : Hid (sizeE (.node k n s l) = sizeEL l + 1) := by rw [sizeE]; exact rfl
  clear hI hd hs
  show Calls Tryz.prog 29 #[.agg #[.int .i64 k, .int .i64 n, .string s, .slice A l.length (capF l.length c)]] w _
  generalize capF l.length c = c
  obtain ⟨m, hm⟩ : ∃ m, m = l.length := ⟨_, rfl⟩
  rw [← hm]
  have hm1 : m ≤ l.length := by omega
  have hm2 : l.length ≤ m := by omega
  clear hm
  have l0 := Lies.new w 24 #[.int .i64 k, .int .i64 n, .string s, .slice A m c]
  have hb0 : Below w.heap.size w (w.alloc (.cells #[.int .i64 k, .int .i64 n, .string s, .slice A m c] 24)) := (Below.refl _ w).alloc (Nat.le_refl _) _
  go_enter Tryz.func29, Tryz.ntmps29
  go_wp2_with fail
  go_loopw [3, 4] (fun v x wr => ∃ i : Nat, i ≤ m ∧ x = .int .i64 i ∧ v = .int .i64 (sizeEL (l.take i) + 1) ∧ Lies wr w.heap.size 24 #[.int .i64 k, .int .i64 n, .string s, .slice A m c] ∧ Below w.heap.size w wr) (fun _ x _ => m - (intOf x).toNat)
  case atStart => exact ⟨0, by omega, rfl, by simp [sizeEL], l0, hb0⟩
  case round =>
   obtain ⟨i, hi, rfl, rfl, l2, hbw⟩ := hrel
   have hbs := hbw.size
   have c3 := l2.cell 3
   simp at c3
   have hdt := sizeEL_take l i
   have hdt2 := sizeEL_take l (i + 1)
   by_cases hlt : i < m
   ·have hia : i < l.length := by omega
    obtain ⟨g, o, A', c', ⟨hA, _⟩, d0, d1, d2, d3, hIn⟩ := EIn.part (EIn.below _ HI.out hbw (Nat.le_refl _)) i hia
    subst hA
    have hm3 := depthEL_mem l (l[i]'hia) (List.getElem_mem hia)
    have hm4 := sizeEL_mem l (l[i]'hia) (List.getElem_mem hia)
    have HS : Hid (sizeEL (l.take (i + 1)) = sizeEL (l.take i) + sizeE (l[i]'hia)) := by
     rw [List.take_succ_eq_append_getElem hia]; exact sizeEL_snoc _ _
    have hq := HS.out
    rw [hq] at hdt2
    simp only [Te.parts] at d0 d1 d2 d3 hIn
    obtain ⟨tr, hu⟩ : ∃ tr, tr = l[i]'hia := ⟨_, rfl⟩
    rw [← hu] at d0 d1 d2 d3 hIn hm3 hm4 HS hdt2
    clear hu hq
    obtain ⟨tk, tn, ts, tl⟩ := tr
    simp only [Te.kind, Te.n, Te.name] at d0 d1 d2 d3
    have HIH := Lib.hid (ih (.node tk tn ts tl) A' c' wr (by omega) (by omega) hIn)
    have L2 := Lib.hid l2
    clear l2 hIn
    go_wp2_with fail
    refine HIH.out.mono ?_
    rintro e w2 ⟨rfl, hb2⟩
    go_wp2_with fail
    go_roundw
    case rel => exact ⟨i + 1, by omega, by go_num, by rw [HS.out]; exact congrArg (Value.int .i64) (by omega), L2.out.below hb2 L2.out.lt, hbw.trans (hb2.mono hbs)⟩
    case measure => simp [intOf]; omega
   ·go_wp2_with fail
    go_ret
    obtain rfl : i = m := by omega
    refine ⟨?_, hbw⟩
    rw [List.take_of_length_le (by omega)]
    rw [HE.out]
    exact ret_int (by omega)
set_option maxHeartbeats 4000000 in
theorem rsame6_any (d : Nat) : ∀ (t t' : Te) (A A' : Option Addr) (c c' : Nat) (w : World), depthE t ≤ d → EIn w Any t A → EIn w Any t' A' →
  Calls Tryz.prog 16 #[ev t A c, ev t' A' c'] w fun e w' => e = .returned (.bool (sameE t t')) ∧ Below w.heap.size w w' := by
 induction d with
 | zero => intro t _ A _ c _ w h; have := depthE_pos t; omega
 | succ d ih =>
  intro t t' A A' c c' w hd hI hI'
  obtain ⟨k, n, s, l⟩ := t
  obtain ⟨k', n', s', l'⟩ := t'
  have hdL : depthEL l ≤ d := by rw [depthE] at hd; omega
  have hml : l.length ≤ 140737488351232 := by rw [EIn] at hI; exact hI.2.1
  have hml' : l'.length ≤ 140737488351232 := by rw [EIn] at hI'; exact hI'.2.1
  show Calls Tryz.prog 16 #[.agg #[.int .i64 k, .int .i64 n, .string s, .slice A l.length (capF l.length c)], .agg #[.int .i64 k', .int .i64 n', .string s', .slice A' l'.length (capF l'.length c')]] w _
  generalize capF l.length c = c
  generalize capF l'.length c' = c'
  have HE : Hid (sameE (.node k n s l) (.node k' n' s' l') = (decide (k = k') && (decide (n = n') && (decide (s = s') && sameEL l l')))) := by
   show _ = _
   rw [sameE]
  have HB : Hid (∀ o o' : Obj, Below w.heap.size w ((w.alloc o).alloc o')) := Lib.hid fun o o' => below2_new o o'
  obtain ⟨U, hU⟩ : ∃ U, U = sameE (.node k n s l) (.node k' n' s' l') := ⟨_, rfl⟩
  rw [← hU] at HE ⊢
  clear hU
  have HI := Lib.hid hI
  have HI' := Lib.hid hI'
  clear hI hI' hd
  obtain ⟨m, hm⟩ : ∃ m, m = l.length := ⟨_, rfl⟩
  obtain ⟨m', hm'⟩ : ∃ m, m = l'.length := ⟨_, rfl⟩
  rw [← hm] at hml ⊢
  rw [← hm'] at hml' ⊢
  have hm1 : m ≤ l.length := by omega
  have hm2 : l.length ≤ m := by omega
  have hm3 : m' ≤ l'.length := by omega
  have hm4 : l'.length ≤ m' := by omega
  clear hm hm'
  by_cases hk : k = k'
  ·by_cases hs : s = s'
   ·by_cases hn : n = n'
    ·by_cases hmm : m = m'
     ·subst hk hn hs hmm
      simp only [decide_true, Bool.true_and] at HE
      have l20 : Lies ((w.alloc (.cells #[.int .i64 k, .int .i64 n, .string s, .slice A m c] 24)).alloc (.cells #[.int .i64 k, .int .i64 n, .string s, .slice A' m c'] 24)) w.heap.size 24 #[.int .i64 k, .int .i64 n, .string s, .slice A m c] := (Lies.new w _ _).old _
      have l30 : Lies ((w.alloc (.cells #[.int .i64 k, .int .i64 n, .string s, .slice A m c] 24)).alloc (.cells #[.int .i64 k, .int .i64 n, .string s, .slice A' m c'] 24)) (w.heap.size + 1) 24 #[.int .i64 k, .int .i64 n, .string s, .slice A' m c'] := lies_next _ _ _ _ (by simp)
      have hb0 := HB.out (.cells #[.int .i64 k, .int .i64 n, .string s, .slice A m c] 24) (.cells #[.int .i64 k, .int .i64 n, .string s, .slice A' m c'] 24)
      go_enter Tryz.func16, Tryz.ntmps16
      go_wp2_with fail
      go_loopw [5] (fun x wr => ∃ i : Nat, i ≤ m ∧ x = .int .i64 i ∧ Hid (sameEL l l' = sameEL (l.drop i) (l'.drop i)) ∧ Lies wr w.heap.size 24 #[.int .i64 k, .int .i64 n, .string s, .slice A m c] ∧ Lies wr (w.heap.size + 1) 24 #[.int .i64 k, .int .i64 n, .string s, .slice A' m c'] ∧ Below w.heap.size w wr) (fun x _ => m - (intOf x).toNat)
      case atStart => exact ⟨0, by omega, rfl, by exact rfl, l20, l30, hb0⟩
      case round =>
       obtain ⟨i, hi, rfl, HQ, l2, l3, hbw⟩ := hrel
       have hbs := hbw.size
       have c3 := l2.cell 3
       simp at c3
       have c3' := l3.cell 3
       simp at c3'
       by_cases hlt : i < m
       ·have hia : i < l.length := by omega
        have hib : i < l'.length := by omega
        obtain ⟨g, o, B, b, ⟨hA, _⟩, d0, d1, d2, d3, hIn⟩ := EIn.part (EIn.below _ HI.out hbw (Nat.le_refl _)) i hia
        obtain ⟨g', o', B', b', ⟨hA', _⟩, f0, f1, f2, f3, hIn'⟩ := EIn.part (EIn.below _ HI'.out hbw (Nat.le_refl _)) i hib
        subst hA hA'
        simp only [Te.parts] at d0 d1 d2 d3 hIn f0 f1 f2 f3 hIn'
        have hm5 := depthEL_mem l (l[i]'hia) (List.getElem_mem hia)
        have HS : Hid (sameEL (l.drop i) (l'.drop i) = (sameE (l[i]'hia) (l'[i]'hib) && sameEL (l.drop (i + 1)) (l'.drop (i + 1)))) := by
         show _ = _
         rw [List.drop_eq_getElem_cons hia, List.drop_eq_getElem_cons hib, sameEL]
        obtain ⟨tr, hu⟩ : ∃ tr, tr = l[i]'hia := ⟨_, rfl⟩
        obtain ⟨tr', hu'⟩ : ∃ tr, tr = l'[i]'hib := ⟨_, rfl⟩
        rw [← hu] at d0 d1 d2 d3 hIn HS hm5
        rw [← hu'] at f0 f1 f2 f3 hIn' HS
        clear hu hu'
        obtain ⟨tk, tn, ts, tl⟩ := tr
        obtain ⟨tk', tn', ts', tl'⟩ := tr'
        simp only [Te.kind, Te.n, Te.name] at d0 d1 d2 d3 f0 f1 f2 f3
        have HC : Hid (∀ X, Below wr.heap.size wr X → Calls Tryz.prog 16 #[.agg #[.int .i64 tk, .int .i64 tn, .string ts, .slice B tl.length (capF tl.length b)], .agg #[.int .i64 tk', .int .i64 tn', .string ts', .slice B' tl'.length (capF tl'.length b')]] X fun e w' => e = .returned (.bool (sameE (.node tk tn ts tl) (.node tk' tn' ts' tl'))) ∧ Below X.heap.size X w') := Lib.hid fun X hX =>
         ih (.node tk tn ts tl) (.node tk' tn' ts' tl') B B' b b' X (by omega) (EIn.below _ hIn hX (Nat.le_refl _)) (EIn.below _ hIn' hX (Nat.le_refl _))
        have hgl := cell_lt d0
        have hgl' := cell_lt f0
        have HSS : Hid (∀ V', Below wr.heap.size wr V' → (fun V' : World => (V'.cell? ⟨w.heap.size, 3, none⟩ = some (.slice (some ⟨g, o, none⟩) m c) ∧ V'.cell? ⟨w.heap.size + 1, 3, none⟩ = some (.slice (some ⟨g', o', none⟩) m c') ∧ V'.cell? ⟨g, o + i * 4, none⟩ = some (.int .i64 tk) ∧ V'.cell? ⟨g, o + i * 4 + 1, none⟩ = some (.int .i64 tn) ∧ V'.cell? ⟨g, o + i * 4 + 2, none⟩ = some (.string ts) ∧ V'.cell? ⟨g, o + i * 4 + 3, none⟩ = some (.slice B tl.length (capF tl.length b)) ∧ V'.cell? ⟨g', o' + i * 4, none⟩ = some (.int .i64 tk') ∧ V'.cell? ⟨g', o' + i * 4 + 1, none⟩ = some (.int .i64 tn') ∧ V'.cell? ⟨g', o' + i * 4 + 2, none⟩ = some (.string ts') ∧ V'.cell? ⟨g', o' + i * 4 + 3, none⟩ = some (.slice B' tl'.length (capF tl'.length b')))) V') := Lib.hid fun V' h =>
         ⟨(h.cell (p := ⟨w.heap.size, 3, none⟩) l2.lt).trans c3, (h.cell (p := ⟨w.heap.size + 1, 3, none⟩) l3.lt).trans c3', (h.cell (p := ⟨g, _, none⟩) hgl).trans d0, (h.cell (p := ⟨g, _, none⟩) hgl).trans d1, (h.cell (p := ⟨g, _, none⟩) hgl).trans d2, (h.cell (p := ⟨g, _, none⟩) hgl).trans d3, (h.cell (p := ⟨g', _, none⟩) hgl').trans f0, (h.cell (p := ⟨g', _, none⟩) hgl').trans f1, (h.cell (p := ⟨g', _, none⟩) hgl').trans f2, (h.cell (p := ⟨g', _, none⟩) hgl').trans f3⟩
        have L2 := Lib.hid l2
        have L3 := Lib.hid l3
        clear l2 l3 hIn hIn' l20 l30 hb0
        cases hq : sameE (.node tk tn ts tl) (.node tk' tn' ts' tl')
        ·rw [hq] at HC HS
         clear hq
         go_upto_region 6 with fail
         clear c3 c3' d0 d1 d2 d3 f0 f1 f2 f3
         have hb_1 : Below wr.heap.size wr wr := Below.refl _ _
         refine wp_region_held_drew (S := (fun V' : World => (V'.cell? ⟨w.heap.size, 3, none⟩ = some (.slice (some ⟨g, o, none⟩) m c) ∧ V'.cell? ⟨w.heap.size + 1, 3, none⟩ = some (.slice (some ⟨g', o', none⟩) m c') ∧ V'.cell? ⟨g, o + i * 4, none⟩ = some (.int .i64 tk) ∧ V'.cell? ⟨g, o + i * 4 + 1, none⟩ = some (.int .i64 tn) ∧ V'.cell? ⟨g, o + i * 4 + 2, none⟩ = some (.string ts) ∧ V'.cell? ⟨g, o + i * 4 + 3, none⟩ = some (.slice B tl.length (capF tl.length b)) ∧ V'.cell? ⟨g', o' + i * 4, none⟩ = some (.int .i64 tk') ∧ V'.cell? ⟨g', o' + i * 4 + 1, none⟩ = some (.int .i64 tn') ∧ V'.cell? ⟨g', o' + i * 4 + 2, none⟩ = some (.string ts') ∧ V'.cell? ⟨g', o' + i * 4 + 3, none⟩ = some (.slice B' tl'.length (capF tl'.length b'))))) rfl (HSS.out _ hb_1.drew) (fun hSs => ?_)
         change wpAnyH _ _ _ _ _ 12 (Array.replicate 12 false) _ _
         refine thA (i := 0) (oi := ⟨some 41, _, _, _, _, _⟩) (v := .pointer (some ⟨w.heap.size, 3, none⟩)) hSs ?_
         try go_frame
         refine thA (i := 1) (oi := ⟨some 42, _, _, _, _, _⟩) (v := .slice (some ⟨g, o, none⟩) m c) hSs ?_
         try go_frame
         refine thB (i := 2) (oi := ⟨some 43, _, _, _, _, _⟩) (v := .int .i64 (i : Int)) hSs ?_
         try go_frame
         refine thA (i := 3) (oi := ⟨some 44, _, _, _, _, _⟩) (v := .pointer (some ⟨g, o + i * 4, none⟩)) hSs ?_
         try go_frame
         refine thA (i := 4) (oi := ⟨some 45, _, _, _, _, _⟩) (v := .agg #[.int .i64 tk, .int .i64 tn, .string ts, .slice B tl.length (capF tl.length b)]) hSs ?_
         try go_frame
         refine thA (i := 5) (oi := ⟨some 46, _, _, _, _, _⟩) (v := .pointer (some ⟨w.heap.size + 1, 3, none⟩)) hSs ?_
         try go_frame
         refine thA (i := 6) (oi := ⟨some 47, _, _, _, _, _⟩) (v := .slice (some ⟨g', o', none⟩) m c') hSs ?_
         try go_frame
         refine thB (i := 7) (oi := ⟨some 48, _, _, _, _, _⟩) (v := .int .i64 (i : Int)) hSs ?_
         try go_frame
         refine thA (i := 8) (oi := ⟨some 49, _, _, _, _, _⟩) (v := .pointer (some ⟨g', o' + i * 4, none⟩)) hSs ?_
         try go_frame
         refine thA (i := 9) (oi := ⟨some 50, _, _, _, _, _⟩) (v := .agg #[.int .i64 tk', .int .i64 tn', .string ts', .slice B' tl'.length (capF tl'.length b')]) hSs ?_
         try go_frame
         refine wpAnyH_ready (rs := [10]) (by kernel_rfl) (by simp) (AllReadyH.cons rfl (fun K hK => ?_) AllReadyH.nil)
         go_simp
         refine (HC.out _ (hb_1.drew) ).mono ?_
         rintro e u_2 ⟨rfl, hq_2⟩
         have hb_2 := (hb_1.drew).trans (hq_2.mono (hb_1.drew).size)
         refine hK.out _ _ (HSS.out _ hb_2) (fun hS_2 => ?_)
         clear hK K
         try go_frame
         refine thB (i := 11) (oi := ⟨some 52, _, _, _, _, _⟩) (v := .bool true) hS_2 ?_
         try go_frame
         refine wpAnyH_done (by kernel_rfl) ?_ _
         have hbx := hb_2
         go_wp2_with fail
         go_ret
         exact ⟨ret_bool (by rw [HE.out, HQ.out, HS.out]; rfl), hbw.trans (hbx.mono hbs)⟩
        ·rw [hq] at HC HS
         clear hq
         go_upto_region 6 with fail
         clear c3 c3' d0 d1 d2 d3 f0 f1 f2 f3
         have hb_1 : Below wr.heap.size wr wr := Below.refl _ _
         refine wp_region_held_drew (S := (fun V' : World => (V'.cell? ⟨w.heap.size, 3, none⟩ = some (.slice (some ⟨g, o, none⟩) m c) ∧ V'.cell? ⟨w.heap.size + 1, 3, none⟩ = some (.slice (some ⟨g', o', none⟩) m c') ∧ V'.cell? ⟨g, o + i * 4, none⟩ = some (.int .i64 tk) ∧ V'.cell? ⟨g, o + i * 4 + 1, none⟩ = some (.int .i64 tn) ∧ V'.cell? ⟨g, o + i * 4 + 2, none⟩ = some (.string ts) ∧ V'.cell? ⟨g, o + i * 4 + 3, none⟩ = some (.slice B tl.length (capF tl.length b)) ∧ V'.cell? ⟨g', o' + i * 4, none⟩ = some (.int .i64 tk') ∧ V'.cell? ⟨g', o' + i * 4 + 1, none⟩ = some (.int .i64 tn') ∧ V'.cell? ⟨g', o' + i * 4 + 2, none⟩ = some (.string ts') ∧ V'.cell? ⟨g', o' + i * 4 + 3, none⟩ = some (.slice B' tl'.length (capF tl'.length b'))))) rfl (HSS.out _ hb_1.drew) (fun hSs => ?_)
         change wpAnyH _ _ _ _ _ 12 (Array.replicate 12 false) _ _
         refine thA (i := 0) (oi := ⟨some 41, _, _, _, _, _⟩) (v := .pointer (some ⟨w.heap.size, 3, none⟩)) hSs ?_
         try go_frame
         refine thA (i := 1) (oi := ⟨some 42, _, _, _, _, _⟩) (v := .slice (some ⟨g, o, none⟩) m c) hSs ?_
         try go_frame
         refine thB (i := 2) (oi := ⟨some 43, _, _, _, _, _⟩) (v := .int .i64 (i : Int)) hSs ?_
         try go_frame
         refine thA (i := 3) (oi := ⟨some 44, _, _, _, _, _⟩) (v := .pointer (some ⟨g, o + i * 4, none⟩)) hSs ?_
         try go_frame
         refine thA (i := 4) (oi := ⟨some 45, _, _, _, _, _⟩) (v := .agg #[.int .i64 tk, .int .i64 tn, .string ts, .slice B tl.length (capF tl.length b)]) hSs ?_
         try go_frame
         refine thA (i := 5) (oi := ⟨some 46, _, _, _, _, _⟩) (v := .pointer (some ⟨w.heap.size + 1, 3, none⟩)) hSs ?_
         try go_frame
         refine thA (i := 6) (oi := ⟨some 47, _, _, _, _, _⟩) (v := .slice (some ⟨g', o', none⟩) m c') hSs ?_
         try go_frame
         refine thB (i := 7) (oi := ⟨some 48, _, _, _, _, _⟩) (v := .int .i64 (i : Int)) hSs ?_
         try go_frame
         refine thA (i := 8) (oi := ⟨some 49, _, _, _, _, _⟩) (v := .pointer (some ⟨g', o' + i * 4, none⟩)) hSs ?_
         try go_frame
         refine thA (i := 9) (oi := ⟨some 50, _, _, _, _, _⟩) (v := .agg #[.int .i64 tk', .int .i64 tn', .string ts', .slice B' tl'.length (capF tl'.length b')]) hSs ?_
         try go_frame
         refine wpAnyH_ready (rs := [10]) (by kernel_rfl) (by simp) (AllReadyH.cons rfl (fun K hK => ?_) AllReadyH.nil)
         go_simp
         refine (HC.out _ (hb_1.drew) ).mono ?_
         rintro e u_2 ⟨rfl, hq_2⟩
         have hb_2 := (hb_1.drew).trans (hq_2.mono (hb_1.drew).size)
         refine hK.out _ _ (HSS.out _ hb_2) (fun hS_2 => ?_)
         clear hK K
         try go_frame
         refine thB (i := 11) (oi := ⟨some 52, _, _, _, _, _⟩) (v := .bool false) hS_2 ?_
         try go_frame
         refine wpAnyH_done (by kernel_rfl) ?_ _
         have hbx := hb_2
         go_wp2_with fail
         go_roundw
         case rel =>
          refine ⟨i + 1, by omega, by go_num, ?_, L2.out.below hbx L2.out.lt, L3.out.below hbx L3.out.lt, hbw.trans (hbx.mono hbs)⟩
          show _ = _
          rw [HQ.out, HS.out]; rfl
         case measure => simp [intOf]; omega
       ·go_wp2_with fail
        go_ret
        exact ⟨ret_bool (by rw [HE.out, HQ.out, List.drop_eq_nil_of_le (by omega), List.drop_eq_nil_of_le (by omega), sameEL]), hbw⟩
     ·have HF : Hid (U = false) := by
       show _ = _
       rw [HE.out, sameFL_len l l' (by omega)]; simp
      have hn1 : ((m : Int) != (m' : Int)) = true := by simp; omega
      subst hk hn hs
      clear HE HI HI' hmm ih
      go_enter Tryz.func16, Tryz.ntmps16
      go_wp2_with fail
      go_ret
      exact ⟨ret_bool HF.out.symm, HB.out _ _⟩
    ·have HF : Hid (U = false) := by
      show _ = _
      rw [HE.out]; simp [hn]
     subst hk hs
     clear HE HI HI' ih
     go_enter Tryz.func16, Tryz.ntmps16
     go_wp2_with fail
     go_ret
     exact ⟨ret_bool HF.out.symm, HB.out _ _⟩
   ·have hs' := strE_ne hs
    have HF : Hid (U = false) := by
     show _ = _
     rw [HE.out]; simp [hs]
    subst hk
    clear hs HE HI HI' ih
    go_enter Tryz.func16, Tryz.ntmps16
    go_wp2_with fail
    go_ret
    exact ⟨ret_bool HF.out.symm, HB.out _ _⟩
  ·have HF : Hid (U = false) := by
    show _ = _
    rw [HE.out]; simp [hk]
   clear HE HI HI' ih
   go_enter Tryz.func16, Tryz.ntmps16
   go_wp2_with fail
   go_ret
   exact ⟨ret_bool HF.out.symm, HB.out _ _⟩
end Lx
end Go.Proofs.YtiocmiikghcoaaaGreatDoor
