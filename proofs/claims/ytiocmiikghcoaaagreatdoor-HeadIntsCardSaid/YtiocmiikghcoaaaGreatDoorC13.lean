/-
  Texts that lie one behind the other: Ty SuMy BelN SuMay.
-/
import Derived.Test.YtiocmiikghcoaaaGreatDoorC12
import Derived.Test.YtiocmiikghcoaaaGreatDoorC7
import Derived.Test.YtiocmiikghcoaaaGreatDoorC3
import Derived.Test.YtiocmiikghcoaaaGreatDoorC1
import Derived.Deep.Cut
import Derived.Deep.QuietTactic
import Derived.BigQuiet
import Derived.Deep.DeepCutAuto
namespace Go.Proofs.YtiocmiikghcoaaaGreatDoor
open Go.RowKit
namespace Lx
set_option maxRecDepth 100000
mutual
def tyE : Te → List UInt8
 | .node k n s l => if k = 7 then Lib.itoa n else if k = 9 then [33] else
  [40] ++ ((if k = 3 then [64] else s.data.toList) ++ tyEL l) ++ [41]
def tyEL : List Te → List UInt8
 | [] => []
 | t :: r => [32] ++ tyE t ++ tyEL r
end
mutual
def simyE : Te → Prop
 | .node k n s l => (k = 7 ∧ -9223372036854775808 ≤ n ∧ n ≤ 9223372036854775807) ∨ k = 9 ∨ (k = 3 ∧ simyEL l) ∨ (k = 4 ∧ s.size ≤ 10 ∧ simyEL l)
def simyEL : List Te → Prop
 | [] => True
 | t :: r => simyE t ∧ simyEL r
end
theorem simyEL_mem : ∀ (l : List Te) (t : Te), t ∈ l → simyEL l → simyE t
 | [], t, h, _ => by simp at h
 | a :: r, t, h, ht => by
  rw [simyEL] at ht
  rcases List.mem_cons.1 h with rfl | h
  ·exact ht.1
  ·exact simyEL_mem r t h ht.2
theorem tyEL_snoc (l : List Te) (t : Te) : tyEL (l ++ [t]) = tyEL l ++ ([32] ++ tyE t) := by
 induction l with
 | nil => simp [tyEL]
 | cons a r ih => simp only [List.cons_append, tyEL, ih, List.append_assoc]
theorem tyEL_take (l : List Te) (i : Nat) (h : i < l.length) : tyEL (l.take (i + 1)) = tyEL (l.take i) ++ ([32] ++ tyE (l[i]'h)) := by
 rw [List.take_succ_eq_append_getElem h, tyEL_snoc]
theorem tyEL_take_le (l : List Te) (i : Nat) : (tyEL (l.take i)).length ≤ (tyEL l).length := by
 induction l generalizing i with
 | nil => simp
 | cons a r ih =>
  cases i with
  | zero => simp [tyEL]
  | succ i => simp only [List.take_succ_cons, tyEL, List.length_append]; have := ih i; omega
theorem itoa_len21 {n : Int} (h0 : -9223372036854775808 ≤ n) (h1 : n ≤ 9223372036854775807) : (Lib.itoa n).length ≤ 21 := by
 by_cases h : n < 0
 ·rw [dg_neg h]
  have : (if -n < 10 then [] else Lib.itoa (-n / 10)).length ≤ 19 := by
   split
   ·simp
   ·rw [Lib.itoa, if_neg (by omega), Lib.decDigits_length]
    exact nDig_le 18 _ (by omega)
  simp; omega
 ·rw [Lib.itoa, if_neg h, Lib.decDigits_length]
  have := nDig_le 19 n.toNat (by omega)
  omega
mutual
theorem tyE_len : ∀ t : Te, simyE t → (tyE t).length + 1 ≤ 22 * sizeE t
 | .node k n s l, h => by
  rw [simyE] at h
  rw [tyE, sizeE]
  rcases h with ⟨rfl, h0, h1⟩ | rfl | ⟨rfl, hl⟩ | ⟨rfl, hs, hl⟩
  ·have := itoa_len21 h0 h1
   simp; omega
  ·simp; omega
  ·have := tyEL_len l hl
   simp; omega
  ·have := tyEL_len l hl
   have e : s.data.toList.length = s.size := by simp
   simp; omega
theorem tyEL_len : ∀ l : List Te, simyEL l → (tyEL l).length ≤ 22 * sizeEL l
 | [], _ => by simp [tyEL]
 | t :: r, h => by
  rw [simyEL] at h
  rw [tyEL, sizeEL]
  have := tyE_len t h.1
  have := tyEL_len r h.2
  simp; omega
end
theorem str_iz (T : List UInt8) : ∃ S : ByteArray, S.data.toList = T ∧ S.size = T.length ∧ ByteArray.mk T.toArray = S := ⟨_, by simp, by show T.toArray.size = _; simp, rfl⟩
set_option maxHeartbeats 4000000 in
theorem rty6_any (d : Nat) : ∀ (t : Te) (A : Option Addr) (c : Nat) (w : World), depthE t ≤ d → sizeE t ≤ 80 → simyE t → EIn w Any t A →
  Calls Tryz.prog 20 #[ev t A c] w fun e w' => e = .returned (.string ⟨(tyE t).toArray⟩) ∧ Below w.heap.size w w' := by
 induction d with
 | zero => intro t A c w h; have := depthE_pos t; omega
 | succ d ih =>
  intro t A c w hd hsz hsp hI
  obtain ⟨k, n, s, l⟩ := t
  have hdL : depthEL l ≤ d := by rw [depthE] at hd; omega
  have hsL : sizeEL l ≤ 80 := by rw [sizeE] at hsz; omega
  have hlen := sizeEL_len l
  have htx := tyE_len (.node k n s l) hsp
  rw [simyE] at hsp
  show Calls Tryz.prog 20 #[.agg #[.int .i64 k, .int .i64 n, .string s, .slice A l.length (capF l.length c)]] w _
  generalize capF l.length c = c
  have hE : tyE (.node k n s l) = if k = 7 then Lib.itoa n else if k = 9 then [33] else
   [40] ++ ((if k = 3 then [64] else s.data.toList) ++ tyEL l) ++ [41] := by rw [tyE]
  obtain ⟨U, hU⟩ : ∃ U, U = tyE (.node k n s l) := ⟨_, rfl⟩
  rw [← hU] at hE htx ⊢
  have HI := Lib.hid hI
  clear hU hI hd
  obtain ⟨m, hm⟩ : ∃ m, m = l.length := ⟨_, rfl⟩
  rw [← hm] at hlen ⊢
  have hm1 : m ≤ l.length := by omega
  have hm2 : l.length ≤ m := by omega
  have HB : Hid (Below w.heap.size w (w.alloc (.cells #[.int .i64 k, .int .i64 n, .string s, .slice A m c] 24))) := Lib.hid ((Below.refl _ w).alloc (Nat.le_refl _) _)
  clear hm
  rcases hsp with ⟨rfl, h0, h9⟩ | rfl | ⟨rfl, hl⟩ | ⟨rfl, hss, hl⟩
  ·have HE : Hid (U = Lib.itoa n) := Lib.hid (by rw [hE]; simp)
   have HD := Lib.hid (rdg6_any n h0 h9 (w.alloc (.cells #[.int .i64 7, .int .i64 n, .string s, .slice A m c] 24)))
   clear hE HI ih
   go_enter Tryz.func20, Tryz.ntmps20
   go_wp2_with fail
   refine HD.out.mono ?_
   rintro e w2 ⟨rfl, hb2⟩
   go_wp2_with fail
   go_ret
   refine ⟨?_, HB.out.trans (hb2.mono HB.out.size)⟩
   rw [HE.out]
   rfl
  ·have HE : Hid (U = [33]) := Lib.hid (by rw [hE]; simp)
   clear hE HI ih
   go_enter Tryz.func20, Tryz.ntmps20
   go_wp2_with fail
   go_ret
   refine ⟨?_, HB.out⟩
   rw [HE.out]
   rfl
  ·have HSP := Lib.hid hl
   have hTL := tyEL_len l hl
   clear hl
   have HE : Hid (U = [40] ++ ([64] ++ tyEL l) ++ [41]) := Lib.hid (by rw [hE]; simp)
   clear hE
   go_enter Tryz.func20, Tryz.ntmps20
   go_wp2_with fail
   go_loopw [3, 4] (fun v x wr => ∃ (i : Nat) (P : ByteArray), i ≤ m ∧ x = .int .i64 i ∧ v = .string P ∧ P.data.toList = [64] ++ tyEL (l.take i) ∧ Lies wr w.heap.size 24 #[.int .i64 3, .int .i64 n, .string s, .slice A m c] ∧ Below w.heap.size w wr) (fun _ x _ => m - (intOf x).toNat)
   case atStart => exact ⟨0, _, by omega, rfl, rfl, by simp [tyEL], Lies.new w _ _, HB.out⟩
   case round =>
    obtain ⟨i, P, hi, rfl, rfl, hP, l2, hbw⟩ := hrel
    have hbs := hbw.size
    have c3 := l2.cell 3
    simp at c3
    have hPs : P.size ≤ 2000 := by
     have h9 := congrArg List.length hP
     have h8 := tyEL_take_le l i
     simp at h9
     omega
    have HP := Lib.hid hP
    clear hP
    by_cases hlt : i < m
    ·have hia : i < l.length := by omega
     obtain ⟨g, o, B, b, ⟨hA, _⟩, d0, d1, d2, d3, hIn⟩ := EIn.part (EIn.below _ HI.out hbw (Nat.le_refl _)) i hia
     subst hA
     simp only [Te.parts] at d0 d1 d2 d3 hIn
     have hm5 := depthEL_mem l (l[i]'hia) (List.getElem_mem hia)
     have hm6 := sizeEL_mem l (l[i]'hia) (List.getElem_mem hia)
     have hsp := simyEL_mem l (l[i]'hia) (List.getElem_mem hia) HSP.out
     have HS := Lib.hid (tyEL_take l i hia)
     obtain ⟨tr, hu⟩ : ∃ tr, tr = l[i]'hia := ⟨_, rfl⟩
     rw [← hu] at d0 d1 d2 d3 hIn HS hm5 hm6 hsp
     clear hu
     have hC := ih tr B b wr (by omega) (by omega) hsp hIn
     have htl := tyE_len tr hsp
     obtain ⟨T, hT⟩ : ∃ T, T = tyE tr := ⟨_, rfl⟩
     rw [← hT] at hC HS htl
     clear hT hsp
     obtain ⟨S, eS2, eS3, hS⟩ := str_iz T
     rw [hS] at hC
     have HC := Lib.hid hC
     have ES2 := Lib.hid eS2
     obtain ⟨tk, tn, ts, tl⟩ := tr
     simp only [Te.kind, Te.n, Te.name] at d0 d1 d2 d3
     have L2 := Lib.hid l2
     have hSs : S.size ≤ 2000 := by omega
     have b1 : ¬ 9223372036854775807 < 1 + S.size := by omega
     have b2 : ¬ 9223372036854775807 < P.size + (1 + S.size) := by omega
     clear l2 hIn hC eS2 eS3 hS htl
     go_wp2_with fail
     refine HC.out.mono ?_
     rintro e w2 ⟨rfl, hb2⟩
     go_wp2_with fail
     go_roundw
     case rel =>
      refine ⟨i + 1, _, by omega, by go_num, rfl, ?_, L2.out.below hb2 L2.out.lt, hbw.trans (hb2.mono hbs)⟩
      rw [HS.out]
      simp [HP.out, ES2.out]
     case measure => simp [intOf]; omega
    ·have b1 : ¬ 9223372036854775807 < 1 + P.size := by omega
     have b2 : ¬ 9223372036854775807 < 1 + P.size + 1 := by omega
     go_wp2_with fail
     go_ret
     refine ⟨?_, hbw⟩
     have hP := HP.out
     rw [List.take_of_length_le (by omega)] at hP
     rw [HE.out]
     show Ending.returned (Value.string _) = _
     congr 2
     apply ByteArray.ext
     apply Array.toList_inj.1
     simp [hP]
  ·have HSP := Lib.hid hl
   have hTL := tyEL_len l hl
   clear hl
   have HE : Hid (U = [40] ++ (s.data.toList ++ tyEL l) ++ [41]) := Lib.hid (by rw [hE]; simp)
   have hsd : s.data.toList.length = s.size := by simp
   clear hE
   go_enter Tryz.func20, Tryz.ntmps20
   go_wp2_with fail
   go_loopw [3, 4] (fun v x wr => ∃ (i : Nat) (P : ByteArray), i ≤ m ∧ x = .int .i64 i ∧ v = .string P ∧ P.data.toList = s.data.toList ++ tyEL (l.take i) ∧ Lies wr w.heap.size 24 #[.int .i64 4, .int .i64 n, .string s, .slice A m c] ∧ Below w.heap.size w wr) (fun _ x _ => m - (intOf x).toNat)
   case atStart => exact ⟨0, _, by omega, rfl, rfl, by simp [tyEL], Lies.new w _ _, HB.out⟩
   case round =>
    obtain ⟨i, P, hi, rfl, rfl, hP, l2, hbw⟩ := hrel
    have hbs := hbw.size
    have c3 := l2.cell 3
    simp at c3
    have hPs : P.size ≤ 2000 := by
     have h9 := congrArg List.length hP
     have h8 := tyEL_take_le l i
     simp at h9
     omega
    have HP := Lib.hid hP
    clear hP
    by_cases hlt : i < m
    ·have hia : i < l.length := by omega
     obtain ⟨g, o, B, b, ⟨hA, _⟩, d0, d1, d2, d3, hIn⟩ := EIn.part (EIn.below _ HI.out hbw (Nat.le_refl _)) i hia
     subst hA
     simp only [Te.parts] at d0 d1 d2 d3 hIn
     have hm5 := depthEL_mem l (l[i]'hia) (List.getElem_mem hia)
     have hm6 := sizeEL_mem l (l[i]'hia) (List.getElem_mem hia)
     have hsp := simyEL_mem l (l[i]'hia) (List.getElem_mem hia) HSP.out
     have HS := Lib.hid (tyEL_take l i hia)
     obtain ⟨tr, hu⟩ : ∃ tr, tr = l[i]'hia := ⟨_, rfl⟩
     rw [← hu] at d0 d1 d2 d3 hIn HS hm5 hm6 hsp
     clear hu
     have hC := ih tr B b wr (by omega) (by omega) hsp hIn
     have htl := tyE_len tr hsp
     obtain ⟨T, hT⟩ : ∃ T, T = tyE tr := ⟨_, rfl⟩
     rw [← hT] at hC HS htl
     clear hT hsp
     obtain ⟨S, eS2, eS3, hS⟩ := str_iz T
     rw [hS] at hC
     have HC := Lib.hid hC
     have ES2 := Lib.hid eS2
     obtain ⟨tk, tn, ts, tl⟩ := tr
     simp only [Te.kind, Te.n, Te.name] at d0 d1 d2 d3
     have L2 := Lib.hid l2
     have hSs : S.size ≤ 2000 := by omega
     have b1 : ¬ 9223372036854775807 < 1 + S.size := by omega
     have b2 : ¬ 9223372036854775807 < P.size + (1 + S.size) := by omega
     clear l2 hIn hC eS2 eS3 hS htl
     go_wp2_with fail
     refine HC.out.mono ?_
     rintro e w2 ⟨rfl, hb2⟩
     go_wp2_with fail
     go_roundw
     case rel =>
      refine ⟨i + 1, _, by omega, by go_num, rfl, ?_, L2.out.below hb2 L2.out.lt, hbw.trans (hb2.mono hbs)⟩
      rw [HS.out]
      simp [HP.out, ES2.out]
     case measure => simp [intOf]; omega
    ·have b1 : ¬ 9223372036854775807 < 1 + P.size := by omega
     have b2 : ¬ 9223372036854775807 < 1 + P.size + 1 := by omega
     go_wp2_with fail
     go_ret
     refine ⟨?_, hbw⟩
     have hP := HP.out
     rw [List.take_of_length_le (by omega)] at hP
     rw [HE.out]
     show Ending.returned (Value.string _) = _
     congr 2
     apply ByteArray.ext
     apply Array.toList_inj.1
     simp [hP]
theorem strE_empty (s : ByteArray) : s.toList.isEmpty = (s.data.toList == []) := by rw [data_list]; cases s.data.toList <;> rfl
def conW (s : ByteArray) : Bool := kindV 2 s.data.toList
set_option maxHeartbeats 2000000 in
theorem con6_any (s : ByteArray) (w : World) (hs : s.size ≤ 140737488351232) :
  Calls Tryz.prog 69 #[.string s] w fun e w' => e = .returned (.bool (conW s)) ∧ Below w.heap.size w w' := by
 by_cases h0 : s.size = 0
 ·have hl : s.data.toList = [] := List.eq_nil_of_length_eq_zero (by rw [← Lib.size_eq]; exact h0)
  have e3 : s.toList = [] := by rw [data_list]; exact hl
  have HF : Hid (conW s = false) := by
   show _ = _
   rw [conW, hl]; rfl
  clear hl h0
  go_enter Tryz.func69, Tryz.ntmps69
  go_wp2_with fail
  go_ret
  exact ⟨ret_bool HF.out.symm, Below.refl _ _⟩
 ·have hl : s.data.toList ≠ [] := by
   intro e
   have := congrArg List.length e
   rw [← Lib.size_eq] at this
   exact h0 this
  have e3 : s.toList.isEmpty = false := by rw [data_list]; cases h : s.data.toList with | nil => exact absurd h hl | cons _ _ => rfl
  have HK : Hid (refTokV s.data.toList 2 = conW s) := Lib.hid (refTok_kind s.data.toList 2 (.inr rfl) hl)
  have HO := Lib.hid (one_both s 0 w (by omega) hs)
  rw [List.drop_zero] at HO
  cases ht : tokK s.data.toList with
  | error x =>
   have hx := tokK_err ht
   have hx0 : (x == 0) = false := by rcases hx with rfl | rfl <;> rfl
   have hf : refTokV s.data.toList 2 = false := by unfold refTokV; rw [ht]
   have HF := Lib.hid hf
   have HT := Lib.hid ht
   clear ht hf hl h0
   go_enter Tryz.func69, Tryz.ntmps69
   go_wp2_with fail
   refine HO.out.mono ?_
   rintro e w2 ⟨_, he, hb2⟩
   have he2 := he x HT.out
   subst he2
   clear he
   unfold noTokR
   go_wp2_with fail
   go_ret
   exact ⟨ret_bool (by rw [← HK.out, HF.out]), hb2.alloc hb2.size _⟩
  | ok r =>
   obtain ⟨kd, n, t⟩ := r
   have hf : refTokV s.data.toList 2 = (decide (kd = 2) && (t == s.data.toList)) := by unfold refTokV; rw [ht]
   have HF := Lib.hid hf
   have HT := Lib.hid ht
   clear ht hf hl h0
   by_cases hkd : kd = 2
   ·subst hkd
    go_enter Tryz.func69, Tryz.ntmps69
    go_wp2_with fail
    refine HO.out.mono ?_
    rintro e w2 ⟨he, _, hb2⟩
    have he2 := he 2 n t HT.out
    subst he2
    clear he
    unfold tokR
    go_wp2_with fail
    go_ret
    exact ⟨ret_bool (by rw [← HK.out, HF.out, data_list]; simp), hb2.alloc hb2.size _⟩
   ·have e1 : (kd == 2) = false := by simpa using hkd
    go_enter Tryz.func69, Tryz.ntmps69
    go_wp2_with fail
    refine HO.out.mono ?_
    rintro e w2 ⟨he, _, hb2⟩
    have he2 := he kd n t HT.out
    subst he2
    clear he
    unfold tokR
    go_wp2_with fail
    go_ret
    exact ⟨ret_bool (by rw [← HK.out, HF.out]; simp [hkd]), hb2.alloc hb2.size _⟩
def headR (k n : Int) (s : ByteArray) (m : Nat) (free : Int) (alt : Bool) : Bool :=
 if alt then decide (k = 6) && (conW s && (decide (0 ≤ n) && (decide (n ≤ 8) && decide (m = 1))))
 else if k = 1 then s.toList.isEmpty && (decide (m = 0) && (decide (0 ≤ n) && decide (n < free)))
 else if k = 2 then (s.toList.isEmpty && decide (n = 0)) && decide (m = 1)
 else if k = 3 then (s.toList.isEmpty && decide (n = 0)) && decide (m = 2)
 else if k = 4 then conW s && (decide (n = 0) && decide (m ≤ 8))
 else if k = 5 then (s.toList.isEmpty && decide (n = 0)) && (decide (2 ≤ m) && decide (m ≤ 9))
 else if k = 7 then s.toList.isEmpty && decide (m = 0)
 else if k = 8 then opV s.data.toList && (decide (n = 0) && decide (m = 2))
 else if k = 9 then (s.toList.isEmpty && decide (n = 0)) && decide (m = 0)
 else false
set_option maxHeartbeats 8000000 in
theorem head6_any (k n free : Int) (s : ByteArray) (A : Option Addr) (m c : Nat) (alt : Bool) (w : World) (hs : s.size ≤ 140737488351232) (hm : m ≤ 140737488351232) :
  Calls Tryz.prog 47 #[.agg #[.int .i64 k, .int .i64 n, .string s, .slice A m c], .int .i64 free, .bool alt] w fun e w' => e = .returned (.bool (headR k n s m free alt)) ∧ Below w.heap.size w w' := by
 obtain ⟨W0, hW0⟩ : ∃ W, W = w.alloc (.cells #[.int .i64 k, .int .i64 n, .string s, .slice A m c] 24) := ⟨_, rfl⟩
 have hb : Below w.heap.size w W0 := by rw [hW0]; exact (Below.refl _ w).alloc (Nat.le_refl _) _
 have l0 : Lies W0 w.heap.size 24 #[.int .i64 k, .int .i64 n, .string s, .slice A m c] := by rw [hW0]; exact Lies.new w _ _
 have HC := Lib.hid (fun X => con6_any s X hs)
 obtain ⟨c0, c1, c2, c3⟩ := l0.four.1
 go_enter Tryz.func47, Tryz.ntmps47
 go_upto_region 2 with fail
 rw [← hW0]
 have HB := Lib.hid hb
 have L0 := Lib.hid l0
 clear hW0 hb l0
 go_cut [8] (fun v wx => v = .bool (opV s.data.toList) ∧ wx = W0)
 case first =>
  go_wp2_with fail
  all_goals
   go_meet
   refine ⟨?_, rfl⟩
   rw [← data_list]
   simp_all [opV, Bool.or_assoc]
 case rest =>
  obtain ⟨rfl, rfl⟩ := hcut
  obtain ⟨ob, hob⟩ : ∃ b, b = opV s.data.toList := ⟨_, rfl⟩
  rw [← hob]
  obtain ⟨eb, heb⟩ : ∃ b, b = s.toList.isEmpty := ⟨_, rfl⟩
  have heb' : s.toList.isEmpty = eb := heb.symm
  have HO := Lib.hid hob
  have HE := Lib.hid heb
  clear hob heb
  cases alt
  ·rcases (by omega : k = 1 ∨ k = 2 ∨ k = 3 ∨ k = 4 ∨ k = 5 ∨ k = 7 ∨ k = 8 ∨ k = 9 ∨ (k ≠ 1 ∧ k ≠ 2 ∧ k ≠ 3 ∧ k ≠ 4 ∧ k ≠ 5 ∧ k ≠ 7 ∧ k ≠ 8 ∧ k ≠ 9)) with rfl | rfl | rfl | rfl | rfl | rfl | rfl | rfl | hk
   case inr.inr.inr.inl =>
    have HCw := Lib.hid (HC.out wc)
    obtain ⟨cb, hcb⟩ : ∃ b, b = conW s := ⟨_, rfl⟩
    rw [← hcb] at HCw
    have HCB := Lib.hid hcb
    clear hcb HC
    cases cb
    ·go_wp2_with fail
     all_goals
      refine HCw.out.mono ?_
      rintro e w2 ⟨rfl, hb2⟩
      go_wp2_with fail
      go_ret
      refine ⟨ret_bool ?_, HB.out.trans (hb2.mono HB.out.size)⟩
      simp [headR, ← HCB.out]
    ·by_cases hn : n = 0
     ·go_wp2_with fail
      all_goals
       refine HCw.out.mono ?_
       rintro e w2 ⟨rfl, hb2⟩
       have L2 := L0.out.below hb2 L0.out.lt
       obtain ⟨f0, f1, f2, f3⟩ := L2.four.1
       go_wp2_with fail
       all_goals
        go_ret
        refine ⟨ret_bool ?_, HB.out.trans (hb2.mono HB.out.size)⟩
        simp [headR, ← HCB.out, hn]
        try omega
     ·have hn' : (n == 0) = false := by simpa using hn
      go_wp2_with fail
      all_goals
       refine HCw.out.mono ?_
       rintro e w2 ⟨rfl, hb2⟩
       have L2 := L0.out.below hb2 L0.out.lt
       obtain ⟨f0, f1, f2, f3⟩ := L2.four.1
       go_wp2_with fail
       all_goals
        go_ret
        refine ⟨ret_bool ?_, HB.out.trans (hb2.mono HB.out.size)⟩
        simp [headR, ← HCB.out, hn]
        try omega
   case inr.inr.inr.inr.inr.inr.inr.inr =>
    obtain ⟨n1, n2, n3, n4, n5, n7, n8, n9⟩ := hk
    have e1 : (k == 1) = false := by simpa using n1
    have e2 : (k == 2) = false := by simpa using n2
    have e3 : (k == 3) = false := by simpa using n3
    have e4 : (k == 4) = false := by simpa using n4
    have e5 : (k == 5) = false := by simpa using n5
    have e7 : (k == 7) = false := by simpa using n7
    have e8 : (k == 8) = false := by simpa using n8
    have e9 : (k == 9) = false := by simpa using n9
    have HF : Hid (headR k n s m free false = false) := by
     refine Lib.hid ?_
     simp [headR, n1, n2, n3, n4, n5, n7, n8, n9]
    clear n1 n2 n3 n4 n5 n7 n8 n9 HC
    go_wp2_with fail
    all_goals
     go_ret
     exact ⟨ret_bool HF.out.symm, HB.out⟩
   all_goals clear HC
   all_goals
    go_wp2_with fail
    all_goals
     go_ret
     refine ⟨ret_bool ?_, HB.out⟩
     have hE := HE.out
     have hO := HO.out
     rw [Bool.eq_iff_iff]
     simp [headR, ← hE, ← hO]
     clear hE hO heb' HE HO
     clear c0 c1 c2 c3 L0 HB
     try (first | omega | grind)
  ·by_cases hk : k = 6
   ·subst hk
    have HCw := Lib.hid (HC.out wc)
    obtain ⟨cb, hcb⟩ : ∃ b, b = conW s := ⟨_, rfl⟩
    rw [← hcb] at HCw
    have HCB := Lib.hid hcb
    clear hcb HC
    cases cb
    ·go_wp2_with fail
     all_goals
      refine HCw.out.mono ?_
      rintro e w2 ⟨rfl, hb2⟩
      go_wp2_with fail
      go_ret
      refine ⟨ret_bool ?_, HB.out.trans (hb2.mono HB.out.size)⟩
      simp [headR, ← HCB.out]
    ·by_cases hn0 : 0 ≤ n
     ·by_cases hn8 : n ≤ 8
      ·go_wp2_with fail
       all_goals
        refine HCw.out.mono ?_
        rintro e w2 ⟨rfl, hb2⟩
        have L2 := L0.out.below hb2 L0.out.lt
        obtain ⟨f0, f1, f2, f3⟩ := L2.four.1
        go_wp2_with fail
        all_goals
         go_ret
         refine ⟨ret_bool ?_, HB.out.trans (hb2.mono HB.out.size)⟩
         rw [Bool.eq_iff_iff]
         simp [headR, ← HCB.out, hn0, hn8]
         try omega
      ·go_wp2_with fail
       all_goals
        refine HCw.out.mono ?_
        rintro e w2 ⟨rfl, hb2⟩
        have L2 := L0.out.below hb2 L0.out.lt
        obtain ⟨f0, f1, f2, f3⟩ := L2.four.1
        go_wp2_with fail
        all_goals
         go_ret
         refine ⟨ret_bool ?_, HB.out.trans (hb2.mono HB.out.size)⟩
         simp [headR]
         try (intros; omega)
     ·go_wp2_with fail
      all_goals
       refine HCw.out.mono ?_
       rintro e w2 ⟨rfl, hb2⟩
       have L2 := L0.out.below hb2 L0.out.lt
       obtain ⟨f0, f1, f2, f3⟩ := L2.four.1
       go_wp2_with fail
       all_goals
        go_ret
        refine ⟨ret_bool ?_, HB.out.trans (hb2.mono HB.out.size)⟩
        simp [headR]
        try (intros; omega)
   ·have e6 : (k == 6) = false := by simpa using hk
    have HF : Hid (headR k n s m free true = false) := by
     refine Lib.hid ?_
     simp [headR, hk]
    clear hk HC
    go_wp2_with fail
    all_goals
     go_ret
     exact ⟨ret_bool HF.out.symm, HB.out⟩
end Lx
end Go.Proofs.YtiocmiikghcoaaaGreatDoor
namespace Go.Proofs.YtiocmiikghcoaaaGreatDoor
open Go.RowKit
namespace Lx
theorem belowN {w W : World} (h : Below w.heap.size w W) (n : Nat) : Below w.heap.size w (W.drewN n) := h.trans ⟨rfl, rfl, rfl, Nat.le_refl _, fun _ _ => rfl⟩
end Lx
end Go.Proofs.YtiocmiikghcoaaaGreatDoor
namespace Go.Proofs.YtiocmiikghcoaaaGreatDoor
open Go.RowKit
namespace Lx
set_option maxRecDepth 100000
def dupAt (l : List Te) (s : ByteArray) : Bool := l.any fun u => decide (u.name = s)
mutual
def mayQ : Te → Int → Bool → Bool
 | .node k n s l, free, alt => decide (0 ≤ free) && (headR k n s l.length free alt && mayQL k [] l (free + moreE k n))
def mayQL (k : Int) : List Te → List Te → Int → Bool
 | _, [], _ => true
 | met, t :: r, free => mayQ t free (decide (k = 5) && decide (0 < met.length)) && ((!decide (k = 5) || !dupAt (met.drop 1) t.name) && mayQL k (met ++ [t]) r free)
end
theorem strE_nb {s t : ByteArray} (h : s ≠ t) : (s.toList == t.toList) = false := by simpa using strE_ne h
theorem dup_step (l : List Te) (i q : Nat) (s : ByteArray) (hq : q < i) (h : q < l.length) : dupAt ((l.take i).drop q) s = (decide ((l[q]'h).name = s) || dupAt ((l.take i).drop (q + 1)) s) := by
 have h2 : q < (l.take i).length := by simp; omega
 rw [List.drop_eq_getElem_cons h2]
 simp [dupAt]
theorem head_facts {k n free : Int} {s : ByteArray} {m : Nat} {alt : Bool} (h : headR k n s m free alt = true) : (k = 6 → 0 ≤ n ∧ n ≤ 8) ∧ m ≤ 9 := by
 revert h
 unfold headR
 split
 ·intro h; simp at h <;> omega
 ·repeat' split
  all_goals (intro h; simp at h <;> omega)
set_option maxHeartbeats 16000000 in
theorem rmay6_any (d : Nat) : ∀ (t : Te) (A : Option Addr) (c : Nat) (free : Int) (alt : Bool) (w : World), depthE t ≤ d → d ≤ 12000 → -1000000 ≤ free → free ≤ 1000000 + 8 * (12000 - (d : Int)) → EIn w Any t A →
  Calls Tryz.prog 30 #[ev t A c, .int .i64 free, .bool alt] w fun e w' => e = .returned (.bool (mayQ t free alt)) ∧ Below w.heap.size w w' := by
 induction d with
 | zero => intro t A c free alt w h; have := depthE_pos t; omega
 | succ d ih =>
  intro t A c free alt w hd hd4 hf0 hf1 hI
  obtain ⟨k, n, s, l⟩ := t
  have hdL : depthEL l ≤ d := by rw [depthE] at hd; omega
  have hml : l.length ≤ 140737488351232 := by rw [EIn] at hI; exact hI.2.1
  have hss : s.size ≤ 140737488351232 := by rw [EIn] at hI; exact hI.1.1
  show Calls Tryz.prog 30 #[.agg #[.int .i64 k, .int .i64 n, .string s, .slice A l.length (capF l.length c)], .int .i64 free, .bool alt] w _
  generalize capF l.length c = c
  have hE : mayQ (.node k n s l) free alt = (decide (0 ≤ free) && (headR k n s l.length free alt && mayQL k [] l (free + moreE k n))) := by rw [mayQ]
  obtain ⟨U, hU⟩ : ∃ U, U = mayQ (.node k n s l) free alt := ⟨_, rfl⟩
  rw [← hU] at hE ⊢
  have HI := Lib.hid hI
  clear hU hI hd
  obtain ⟨m, hm⟩ : ∃ m, m = l.length := ⟨_, rfl⟩
  rw [← hm] at hml hE ⊢
  have hm1 : m ≤ l.length := by omega
  have hm2 : l.length ≤ m := by omega
  clear hm
  have hb0 : Below w.heap.size w (w.alloc (.cells #[.int .i64 k, .int .i64 n, .string s, .slice A m c] 24)) := (Below.refl _ w).alloc (Nat.le_refl _) _
  have l0 := Lies.new w 24 #[.int .i64 k, .int .i64 n, .string s, .slice A m c]
  by_cases hfree : free < 0
  ·have HF : Hid (U = false) := by
    refine Lib.hid ?_
    rw [hE, decide_eq_false (by omega)]; rfl
   clear hE HI ih
   go_enter Tryz.func30, Tryz.ntmps30
   go_wp2_with fail
   go_ret
   exact ⟨ret_bool HF.out.symm, hb0⟩
  ·have HH := Lib.hid (head6_any k n free s A m c alt (w.alloc (.cells #[.int .i64 k, .int .i64 n, .string s, .slice A m c] 24)) hss hml)
   rw [decide_eq_true (by omega : 0 ≤ free), Bool.true_and] at hE
   cases hh : headR k n s m free alt
   ·rw [hh] at hE HH
    have HF : Hid (U = false) := by
     refine Lib.hid ?_
     rw [hE]; rfl
    clear hE HI ih hh
    go_enter Tryz.func30, Tryz.ntmps30
    go_wp2_with fail
    refine HH.out.mono ?_
    rintro e w1 ⟨rfl, hb1⟩
    go_wp2_with fail
    go_ret
    exact ⟨ret_bool HF.out.symm, hb0.trans (hb1.mono hb0.size)⟩
   ·rw [hh] at hE HH
    obtain ⟨h6, hm9⟩ := head_facts hh
    rw [Bool.true_and] at hE
    clear hh
    rcases (by omega : k = 2 ∨ k = 6 ∨ k = 5 ∨ (k ≠ 2 ∧ k ≠ 6 ∧ k ≠ 5)) with rfl | rfl | rfl | ⟨n2, n6, n5⟩
    ·have HE : Hid (U = mayQL 2 [] l (free + 1)) := Lib.hid (by rw [hE]; rfl)
     have HK5 : ¬ (2 : Int) = 5 := by decide
     clear hE h6
     go_enter Tryz.func30, Tryz.ntmps30
     go_wp2_with fail
     refine HH.out.mono ?_
     rintro e w1 ⟨rfl, hb1⟩
     have l1 := l0.below hb1 l0.lt
     have hbw1 := hb0.trans (hb1.mono hb0.size)
     have k0 := l1.cell 0
     have k1 := l1.cell 1
     simp at k0 k1
     go_wp2_with fail
     go_loopw [7] (fun x wr => ∃ i : Nat, i ≤ m ∧ x = .int .i64 i ∧ Hid (mayQL 2 [] l ((free + 1)) = mayQL 2 (l.take i) (l.drop i) ((free + 1))) ∧ Lies wr w.heap.size 24 #[.int .i64 2, .int .i64 n, .string s, .slice A m c] ∧ Below w.heap.size w wr) (fun x _ => m - (intOf x).toNat)
     case atStart => exact ⟨0, by omega, rfl, by exact rfl, l1, hbw1⟩
     case round =>
      obtain ⟨i, hi, rfl, HQ, l2, hbw⟩ := hrel
      have hbs := hbw.size
      have c0 := l2.cell 0
      have c3 := l2.cell 3
      simp at c0 c3
      by_cases hlt : i < m
      ·have hia : i < l.length := by omega
       obtain ⟨g, o, B, b, ⟨hA, _⟩, d0, d1, d2, d3, hIn⟩ := EIn.part (EIn.below _ HI.out hbw (Nat.le_refl _)) i hia
       subst hA
       have hm5 := depthEL_mem l (l[i]'hia) (List.getElem_mem hia)
       simp only [Te.parts] at d0 d1 d2 d3 hIn
       have HT1 : Hid (l.take (i + 1) = l.take i ++ [l[i]'hia]) := Lib.hid (List.take_succ_eq_append_getElem hia)
       have HS : Hid (mayQL 2 (l.take i) (l.drop i) ((free + 1)) = (mayQ (l[i]'hia) ((free + 1)) false && ((!false || !dupAt ((l.take i).drop 1) (l[i]'hia).name) && mayQL 2 (l.take i ++ [l[i]'hia]) (l.drop (i + 1)) ((free + 1))))) := by
        refine Lib.hid ?_
        have e1 : (decide ((2 : Int) = 5) && decide (0 < (l.take i).length)) = false := by simp [HK5]
        have e2 : decide ((2 : Int) = 5) = false := by simp [HK5]
        rw [List.drop_eq_getElem_cons hia, mayQL, e1, e2]
       obtain ⟨tr, hu⟩ : ∃ tr, tr = l[i]'hia := ⟨_, rfl⟩
       have HTI : Hid (l[i]'hia = tr) := Lib.hid hu.symm
       rw [← hu] at d0 d1 d2 d3 hIn HS hm5 HT1
       clear hu
       obtain ⟨tk, tn, ts, tl⟩ := tr
       simp only [Te.kind, Te.n, Te.name] at d0 d1 d2 d3 HS
       have HC : Hid (∀ X, Below wr.heap.size wr X → Calls Tryz.prog 30 #[.agg #[.int .i64 tk, .int .i64 tn, .string ts, .slice B tl.length (capF tl.length b)], .int .i64 (free + 1), .bool false] X fun e w' => e = .returned (.bool (mayQ (.node tk tn ts tl) ((free + 1)) false)) ∧ Below X.heap.size X w') := Lib.hid fun X hX =>
        ih (.node tk tn ts tl) B b (free + 1) false X (by omega) (by omega) (by omega) (by omega) (EIn.below _ hIn hX (Nat.le_refl _))
       have hgl := cell_lt d0
       have HSS : Hid (∀ V', Below wr.heap.size wr V' → (fun V' : World => (V'.cell? ⟨w.heap.size, 0, none⟩ = some (.int .i64 2) ∧ V'.cell? ⟨w.heap.size, 3, none⟩ = some (.slice (some ⟨g, o, none⟩) m c) ∧ V'.cell? ⟨g, o + i * 4, none⟩ = some (.int .i64 tk) ∧ V'.cell? ⟨g, o + i * 4 + 1, none⟩ = some (.int .i64 tn) ∧ V'.cell? ⟨g, o + i * 4 + 2, none⟩ = some (.string ts) ∧ V'.cell? ⟨g, o + i * 4 + 3, none⟩ = some (.slice B tl.length (capF tl.length b)))) V') := Lib.hid fun V' h =>
        ⟨(h.cell (p := ⟨w.heap.size, 0, none⟩) l2.lt).trans c0, (h.cell (p := ⟨w.heap.size, 3, none⟩) l2.lt).trans c3, (h.cell (p := ⟨g, _, none⟩) hgl).trans d0, (h.cell (p := ⟨g, _, none⟩) hgl).trans d1, (h.cell (p := ⟨g, _, none⟩) hgl).trans d2, (h.cell (p := ⟨g, _, none⟩) hgl).trans d3⟩
       have L2 := Lib.hid l2
       clear l2 hIn
       cases hq : mayQ (.node tk tn ts tl) ((free + 1)) false
       ·rw [hq] at HC HS
        clear hq
        go_upto_region 10 with fail
        clear c0 c3 d0 d1 d2 d3
        have hb_1 : Below wr.heap.size wr wr := Below.refl _ _
        refine wp_region_held_drew (S := (fun V' : World => (V'.cell? ⟨w.heap.size, 0, none⟩ = some (.int .i64 2) ∧ V'.cell? ⟨w.heap.size, 3, none⟩ = some (.slice (some ⟨g, o, none⟩) m c) ∧ V'.cell? ⟨g, o + i * 4, none⟩ = some (.int .i64 tk) ∧ V'.cell? ⟨g, o + i * 4 + 1, none⟩ = some (.int .i64 tn) ∧ V'.cell? ⟨g, o + i * 4 + 2, none⟩ = some (.string ts) ∧ V'.cell? ⟨g, o + i * 4 + 3, none⟩ = some (.slice B tl.length (capF tl.length b))))) rfl (HSS.out _ hb_1.drew) (fun hSs => ?_)
        change wpAnyH _ _ _ _ _ 15 (Array.replicate 15 false) _ _
        refine thA (i := 0) (oi := ⟨some 37, _, _, _, _, _⟩) (v := .pointer (some ⟨w.heap.size, 3, none⟩)) hSs ?_
        try go_frame
        refine thA (i := 1) (oi := ⟨some 38, _, _, _, _, _⟩) (v := .slice (some ⟨g, o, none⟩) m c) hSs ?_
        try go_frame
        refine thB (i := 2) (oi := ⟨some 39, _, _, _, _, _⟩) (v := .int .i64 (i : Int)) hSs ?_
        try go_frame
        refine thA (i := 3) (oi := ⟨some 40, _, _, _, _, _⟩) (v := .pointer (some ⟨g, o + i * 4, none⟩)) hSs ?_
        try go_frame
        refine thA (i := 4) (oi := ⟨some 41, _, _, _, _, _⟩) (v := .agg #[.int .i64 tk, .int .i64 tn, .string ts, .slice B tl.length (capF tl.length b)]) hSs ?_
        try go_frame
        refine thB (i := 5) (oi := ⟨some 42, _, _, _, _, _⟩) (v := .int .i64 (free + 1)) hSs ?_
        try go_frame
        refine thA (i := 6) (oi := ⟨some 43, _, _, _, _, _⟩) (v := .pointer (some ⟨w.heap.size, 0, none⟩)) hSs ?_
        try go_frame
        refine thA (i := 7) (oi := ⟨some 44, _, _, _, _, _⟩) (v := .int .i64 2) hSs ?_
        try go_frame
        refine thA (i := 8) (oi := ⟨some 45, _, _, _, _, _⟩) (v := .bool false) hSs ?_
        try go_frame
        refine thB (i := 9) (oi := ⟨some 46, _, _, _, _, _⟩) (v := .bool false) hSs ?_
        try go_frame
        refine wpAnyH_take (i := 10) (oi := ⟨some 47, _, _, _, _, _⟩) (v := undef) rfl (by kernel_rfl) (by kernel_rfl) (by kernel_rfl) (fun _ _ _ h => h) (.inr ⟨by kernel_rfl, rfl⟩) hSs ?_
        try go_frame
        refine wpAnyH_take (i := 11) (oi := ⟨some 48, _, _, _, _, _⟩) (v := undef) rfl (by kernel_rfl) (by kernel_rfl) (by kernel_rfl) (fun _ _ _ h => h) (.inr ⟨by kernel_rfl, rfl⟩) hSs ?_
        try go_frame
        refine thB (i := 12) (oi := ⟨some 49, _, _, _, _, _⟩) (v := .bool false) hSs ?_
        try go_frame
        refine wpAnyH_ready (rs := [13]) (by kernel_rfl) (by simp) (AllReadyH.cons rfl (fun K hK => ?_) AllReadyH.nil)
        go_simp
        refine (HC.out _ (hb_1.drew) ).mono ?_
        rintro e u_2 ⟨rfl, hq_2⟩
        have hb_2 := (hb_1.drew).trans (hq_2.mono (hb_1.drew).size)
        refine hK.out _ _ (HSS.out _ hb_2) (fun hS_2 => ?_)
        clear hK K
        try go_frame
        refine thB (i := 14) (oi := ⟨some 51, _, _, _, _, _⟩) (v := .bool true) hS_2 ?_
        try go_frame
        refine wpAnyH_done (by kernel_rfl) ?_ _
        have hbx := hb_2
        go_wp2_with fail
        go_ret
        exact ⟨ret_bool (by rw [HE.out, HQ.out, HS.out]; rfl), hbw.trans (hbx.mono hbs)⟩
       ·rw [hq] at HC HS
        clear hq
        go_upto_region 10 with fail
        clear c0 c3 d0 d1 d2 d3
        have hb_1 : Below wr.heap.size wr wr := Below.refl _ _
        refine wp_region_held_drew (S := (fun V' : World => (V'.cell? ⟨w.heap.size, 0, none⟩ = some (.int .i64 2) ∧ V'.cell? ⟨w.heap.size, 3, none⟩ = some (.slice (some ⟨g, o, none⟩) m c) ∧ V'.cell? ⟨g, o + i * 4, none⟩ = some (.int .i64 tk) ∧ V'.cell? ⟨g, o + i * 4 + 1, none⟩ = some (.int .i64 tn) ∧ V'.cell? ⟨g, o + i * 4 + 2, none⟩ = some (.string ts) ∧ V'.cell? ⟨g, o + i * 4 + 3, none⟩ = some (.slice B tl.length (capF tl.length b))))) rfl (HSS.out _ hb_1.drew) (fun hSs => ?_)
        change wpAnyH _ _ _ _ _ 15 (Array.replicate 15 false) _ _
        refine thA (i := 0) (oi := ⟨some 37, _, _, _, _, _⟩) (v := .pointer (some ⟨w.heap.size, 3, none⟩)) hSs ?_
        try go_frame
        refine thA (i := 1) (oi := ⟨some 38, _, _, _, _, _⟩) (v := .slice (some ⟨g, o, none⟩) m c) hSs ?_
        try go_frame
        refine thB (i := 2) (oi := ⟨some 39, _, _, _, _, _⟩) (v := .int .i64 (i : Int)) hSs ?_
        try go_frame
        refine thA (i := 3) (oi := ⟨some 40, _, _, _, _, _⟩) (v := .pointer (some ⟨g, o + i * 4, none⟩)) hSs ?_
        try go_frame
        refine thA (i := 4) (oi := ⟨some 41, _, _, _, _, _⟩) (v := .agg #[.int .i64 tk, .int .i64 tn, .string ts, .slice B tl.length (capF tl.length b)]) hSs ?_
        try go_frame
        refine thB (i := 5) (oi := ⟨some 42, _, _, _, _, _⟩) (v := .int .i64 (free + 1)) hSs ?_
        try go_frame
        refine thA (i := 6) (oi := ⟨some 43, _, _, _, _, _⟩) (v := .pointer (some ⟨w.heap.size, 0, none⟩)) hSs ?_
        try go_frame
        refine thA (i := 7) (oi := ⟨some 44, _, _, _, _, _⟩) (v := .int .i64 2) hSs ?_
        try go_frame
        refine thA (i := 8) (oi := ⟨some 45, _, _, _, _, _⟩) (v := .bool false) hSs ?_
        try go_frame
        refine thB (i := 9) (oi := ⟨some 46, _, _, _, _, _⟩) (v := .bool false) hSs ?_
        try go_frame
        refine wpAnyH_take (i := 10) (oi := ⟨some 47, _, _, _, _, _⟩) (v := undef) rfl (by kernel_rfl) (by kernel_rfl) (by kernel_rfl) (fun _ _ _ h => h) (.inr ⟨by kernel_rfl, rfl⟩) hSs ?_
        try go_frame
        refine wpAnyH_take (i := 11) (oi := ⟨some 48, _, _, _, _, _⟩) (v := undef) rfl (by kernel_rfl) (by kernel_rfl) (by kernel_rfl) (fun _ _ _ h => h) (.inr ⟨by kernel_rfl, rfl⟩) hSs ?_
        try go_frame
        refine thB (i := 12) (oi := ⟨some 49, _, _, _, _, _⟩) (v := .bool false) hSs ?_
        try go_frame
        refine wpAnyH_ready (rs := [13]) (by kernel_rfl) (by simp) (AllReadyH.cons rfl (fun K hK => ?_) AllReadyH.nil)
        go_simp
        refine (HC.out _ (hb_1.drew) ).mono ?_
        rintro e u_2 ⟨rfl, hq_2⟩
        have hb_2 := (hb_1.drew).trans (hq_2.mono (hb_1.drew).size)
        refine hK.out _ _ (HSS.out _ hb_2) (fun hS_2 => ?_)
        clear hK K
        try go_frame
        refine thB (i := 14) (oi := ⟨some 51, _, _, _, _, _⟩) (v := .bool false) hS_2 ?_
        try go_frame
        refine wpAnyH_done (by kernel_rfl) ?_ _
        have hbx := hb_2
        obtain ⟨wx, hwx⟩ : ∃ wx, wx = u_2 := ⟨_, rfl⟩
        rw [← hwx] at hbx ⊢
        clear hwx
        have hbw8 := hbw.trans (hbx.mono hbs)
        have L8 := L2.out.below hbx L2.out.lt
        have c08 := L8.cell 0
        have c38 := L8.cell 3
        simp at c08 c38
        go_wp2_with fail
        go_loopw [8] (fun x wr2 => x = .int .i64 1 ∧ Lies wr2 w.heap.size 24 #[.int .i64 2, .int .i64 n, .string s, .slice (some ⟨g, o, none⟩) m c] ∧ Below w.heap.size w wr2) (fun _ _ => 0)
        case atStart => exact ⟨rfl, L8, hbw8⟩
        case round =>
         obtain ⟨rfl, L9, hbw9⟩ := hrel
         have c09 := L9.cell 0
         simp at c09
         go_wp2_with fail
         all_goals
          go_roundw
          case rel =>
           refine ⟨i + 1, by omega, by go_num, ?_, L9, hbw9⟩
           show _ = _
           rw [HQ.out, HS.out, HT1.out]
           simp
          case measure => simp [intOf]; omega
      ·go_wp2_with fail
       go_ret
       exact ⟨ret_bool (by rw [HE.out, HQ.out, List.drop_eq_nil_of_le (by omega), mayQL]), hbw⟩
    ·have HE : Hid (U = mayQL 6 [] l (free + n)) := Lib.hid (by rw [hE]; rfl)
     have HK5 : ¬ (6 : Int) = 5 := by decide
     obtain ⟨h60, h68⟩ := h6 rfl
     clear hE h6
     go_enter Tryz.func30, Tryz.ntmps30
     go_wp2_with fail
     refine HH.out.mono ?_
     rintro e w1 ⟨rfl, hb1⟩
     have l1 := l0.below hb1 l0.lt
     have hbw1 := hb0.trans (hb1.mono hb0.size)
     have k0 := l1.cell 0
     have k1 := l1.cell 1
     simp at k0 k1
     go_wp2_with fail
     go_loopw [7] (fun x wr => ∃ i : Nat, i ≤ m ∧ x = .int .i64 i ∧ Hid (mayQL 6 [] l ((free + n)) = mayQL 6 (l.take i) (l.drop i) ((free + n))) ∧ Lies wr w.heap.size 24 #[.int .i64 6, .int .i64 n, .string s, .slice A m c] ∧ Below w.heap.size w wr) (fun x _ => m - (intOf x).toNat)
     case atStart => exact ⟨0, by omega, rfl, by exact rfl, l1, hbw1⟩
     case round =>
      obtain ⟨i, hi, rfl, HQ, l2, hbw⟩ := hrel
      have hbs := hbw.size
      have c0 := l2.cell 0
      have c3 := l2.cell 3
      simp at c0 c3
      by_cases hlt : i < m
      ·have hia : i < l.length := by omega
       obtain ⟨g, o, B, b, ⟨hA, _⟩, d0, d1, d2, d3, hIn⟩ := EIn.part (EIn.below _ HI.out hbw (Nat.le_refl _)) i hia
       subst hA
       have hm5 := depthEL_mem l (l[i]'hia) (List.getElem_mem hia)
       simp only [Te.parts] at d0 d1 d2 d3 hIn
       have HT1 : Hid (l.take (i + 1) = l.take i ++ [l[i]'hia]) := Lib.hid (List.take_succ_eq_append_getElem hia)
       have HS : Hid (mayQL 6 (l.take i) (l.drop i) ((free + n)) = (mayQ (l[i]'hia) ((free + n)) false && ((!false || !dupAt ((l.take i).drop 1) (l[i]'hia).name) && mayQL 6 (l.take i ++ [l[i]'hia]) (l.drop (i + 1)) ((free + n))))) := by
        refine Lib.hid ?_
        have e1 : (decide ((6 : Int) = 5) && decide (0 < (l.take i).length)) = false := by simp [HK5]
        have e2 : decide ((6 : Int) = 5) = false := by simp [HK5]
        rw [List.drop_eq_getElem_cons hia, mayQL, e1, e2]
       obtain ⟨tr, hu⟩ : ∃ tr, tr = l[i]'hia := ⟨_, rfl⟩
       have HTI : Hid (l[i]'hia = tr) := Lib.hid hu.symm
       rw [← hu] at d0 d1 d2 d3 hIn HS hm5 HT1
       clear hu
       obtain ⟨tk, tn, ts, tl⟩ := tr
       simp only [Te.kind, Te.n, Te.name] at d0 d1 d2 d3 HS
       have HC : Hid (∀ X, Below wr.heap.size wr X → Calls Tryz.prog 30 #[.agg #[.int .i64 tk, .int .i64 tn, .string ts, .slice B tl.length (capF tl.length b)], .int .i64 (free + n), .bool false] X fun e w' => e = .returned (.bool (mayQ (.node tk tn ts tl) ((free + n)) false)) ∧ Below X.heap.size X w') := Lib.hid fun X hX =>
        ih (.node tk tn ts tl) B b (free + n) false X (by omega) (by omega) (by omega) (by omega) (EIn.below _ hIn hX (Nat.le_refl _))
       have hgl := cell_lt d0
       have HSS : Hid (∀ V', Below wr.heap.size wr V' → (fun V' : World => (V'.cell? ⟨w.heap.size, 0, none⟩ = some (.int .i64 6) ∧ V'.cell? ⟨w.heap.size, 3, none⟩ = some (.slice (some ⟨g, o, none⟩) m c) ∧ V'.cell? ⟨g, o + i * 4, none⟩ = some (.int .i64 tk) ∧ V'.cell? ⟨g, o + i * 4 + 1, none⟩ = some (.int .i64 tn) ∧ V'.cell? ⟨g, o + i * 4 + 2, none⟩ = some (.string ts) ∧ V'.cell? ⟨g, o + i * 4 + 3, none⟩ = some (.slice B tl.length (capF tl.length b)))) V') := Lib.hid fun V' h =>
        ⟨(h.cell (p := ⟨w.heap.size, 0, none⟩) l2.lt).trans c0, (h.cell (p := ⟨w.heap.size, 3, none⟩) l2.lt).trans c3, (h.cell (p := ⟨g, _, none⟩) hgl).trans d0, (h.cell (p := ⟨g, _, none⟩) hgl).trans d1, (h.cell (p := ⟨g, _, none⟩) hgl).trans d2, (h.cell (p := ⟨g, _, none⟩) hgl).trans d3⟩
       have L2 := Lib.hid l2
       clear l2 hIn
       cases hq : mayQ (.node tk tn ts tl) ((free + n)) false
       ·rw [hq] at HC HS
        clear hq
        go_upto_region 10 with fail
        clear c0 c3 d0 d1 d2 d3
        have hb_1 : Below wr.heap.size wr wr := Below.refl _ _
        refine wp_region_held_drew (S := (fun V' : World => (V'.cell? ⟨w.heap.size, 0, none⟩ = some (.int .i64 6) ∧ V'.cell? ⟨w.heap.size, 3, none⟩ = some (.slice (some ⟨g, o, none⟩) m c) ∧ V'.cell? ⟨g, o + i * 4, none⟩ = some (.int .i64 tk) ∧ V'.cell? ⟨g, o + i * 4 + 1, none⟩ = some (.int .i64 tn) ∧ V'.cell? ⟨g, o + i * 4 + 2, none⟩ = some (.string ts) ∧ V'.cell? ⟨g, o + i * 4 + 3, none⟩ = some (.slice B tl.length (capF tl.length b))))) rfl (HSS.out _ hb_1.drew) (fun hSs => ?_)
        change wpAnyH _ _ _ _ _ 15 (Array.replicate 15 false) _ _
        refine thA (i := 0) (oi := ⟨some 37, _, _, _, _, _⟩) (v := .pointer (some ⟨w.heap.size, 3, none⟩)) hSs ?_
        try go_frame
        refine thA (i := 1) (oi := ⟨some 38, _, _, _, _, _⟩) (v := .slice (some ⟨g, o, none⟩) m c) hSs ?_
        try go_frame
        refine thB (i := 2) (oi := ⟨some 39, _, _, _, _, _⟩) (v := .int .i64 (i : Int)) hSs ?_
        try go_frame
        refine thA (i := 3) (oi := ⟨some 40, _, _, _, _, _⟩) (v := .pointer (some ⟨g, o + i * 4, none⟩)) hSs ?_
        try go_frame
        refine thA (i := 4) (oi := ⟨some 41, _, _, _, _, _⟩) (v := .agg #[.int .i64 tk, .int .i64 tn, .string ts, .slice B tl.length (capF tl.length b)]) hSs ?_
        try go_frame
        refine thB (i := 5) (oi := ⟨some 42, _, _, _, _, _⟩) (v := .int .i64 (free + n)) hSs ?_
        try go_frame
        refine thA (i := 6) (oi := ⟨some 43, _, _, _, _, _⟩) (v := .pointer (some ⟨w.heap.size, 0, none⟩)) hSs ?_
        try go_frame
        refine thA (i := 7) (oi := ⟨some 44, _, _, _, _, _⟩) (v := .int .i64 6) hSs ?_
        try go_frame
        refine thA (i := 8) (oi := ⟨some 45, _, _, _, _, _⟩) (v := .bool false) hSs ?_
        try go_frame
        refine thB (i := 9) (oi := ⟨some 46, _, _, _, _, _⟩) (v := .bool false) hSs ?_
        try go_frame
        refine wpAnyH_take (i := 10) (oi := ⟨some 47, _, _, _, _, _⟩) (v := undef) rfl (by kernel_rfl) (by kernel_rfl) (by kernel_rfl) (fun _ _ _ h => h) (.inr ⟨by kernel_rfl, rfl⟩) hSs ?_
        try go_frame
        refine wpAnyH_take (i := 11) (oi := ⟨some 48, _, _, _, _, _⟩) (v := undef) rfl (by kernel_rfl) (by kernel_rfl) (by kernel_rfl) (fun _ _ _ h => h) (.inr ⟨by kernel_rfl, rfl⟩) hSs ?_
        try go_frame
        refine thB (i := 12) (oi := ⟨some 49, _, _, _, _, _⟩) (v := .bool false) hSs ?_
        try go_frame
        refine wpAnyH_ready (rs := [13]) (by kernel_rfl) (by simp) (AllReadyH.cons rfl (fun K hK => ?_) AllReadyH.nil)
        go_simp
        refine (HC.out _ (hb_1.drew) ).mono ?_
        rintro e u_2 ⟨rfl, hq_2⟩
        have hb_2 := (hb_1.drew).trans (hq_2.mono (hb_1.drew).size)
        refine hK.out _ _ (HSS.out _ hb_2) (fun hS_2 => ?_)
        clear hK K
        try go_frame
        refine thB (i := 14) (oi := ⟨some 51, _, _, _, _, _⟩) (v := .bool true) hS_2 ?_
        try go_frame
        refine wpAnyH_done (by kernel_rfl) ?_ _
        have hbx := hb_2
        go_wp2_with fail
        go_ret
        exact ⟨ret_bool (by rw [HE.out, HQ.out, HS.out]; rfl), hbw.trans (hbx.mono hbs)⟩
       ·rw [hq] at HC HS
        clear hq
        go_upto_region 10 with fail
        clear c0 c3 d0 d1 d2 d3
        have hb_1 : Below wr.heap.size wr wr := Below.refl _ _
        refine wp_region_held_drew (S := (fun V' : World => (V'.cell? ⟨w.heap.size, 0, none⟩ = some (.int .i64 6) ∧ V'.cell? ⟨w.heap.size, 3, none⟩ = some (.slice (some ⟨g, o, none⟩) m c) ∧ V'.cell? ⟨g, o + i * 4, none⟩ = some (.int .i64 tk) ∧ V'.cell? ⟨g, o + i * 4 + 1, none⟩ = some (.int .i64 tn) ∧ V'.cell? ⟨g, o + i * 4 + 2, none⟩ = some (.string ts) ∧ V'.cell? ⟨g, o + i * 4 + 3, none⟩ = some (.slice B tl.length (capF tl.length b))))) rfl (HSS.out _ hb_1.drew) (fun hSs => ?_)
        change wpAnyH _ _ _ _ _ 15 (Array.replicate 15 false) _ _
        refine thA (i := 0) (oi := ⟨some 37, _, _, _, _, _⟩) (v := .pointer (some ⟨w.heap.size, 3, none⟩)) hSs ?_
        try go_frame
        refine thA (i := 1) (oi := ⟨some 38, _, _, _, _, _⟩) (v := .slice (some ⟨g, o, none⟩) m c) hSs ?_
        try go_frame
        refine thB (i := 2) (oi := ⟨some 39, _, _, _, _, _⟩) (v := .int .i64 (i : Int)) hSs ?_
        try go_frame
        refine thA (i := 3) (oi := ⟨some 40, _, _, _, _, _⟩) (v := .pointer (some ⟨g, o + i * 4, none⟩)) hSs ?_
        try go_frame
        refine thA (i := 4) (oi := ⟨some 41, _, _, _, _, _⟩) (v := .agg #[.int .i64 tk, .int .i64 tn, .string ts, .slice B tl.length (capF tl.length b)]) hSs ?_
        try go_frame
        refine thB (i := 5) (oi := ⟨some 42, _, _, _, _, _⟩) (v := .int .i64 (free + n)) hSs ?_
        try go_frame
        refine thA (i := 6) (oi := ⟨some 43, _, _, _, _, _⟩) (v := .pointer (some ⟨w.heap.size, 0, none⟩)) hSs ?_
        try go_frame
        refine thA (i := 7) (oi := ⟨some 44, _, _, _, _, _⟩) (v := .int .i64 6) hSs ?_
        try go_frame
        refine thA (i := 8) (oi := ⟨some 45, _, _, _, _, _⟩) (v := .bool false) hSs ?_
        try go_frame
        refine thB (i := 9) (oi := ⟨some 46, _, _, _, _, _⟩) (v := .bool false) hSs ?_
        try go_frame
        refine wpAnyH_take (i := 10) (oi := ⟨some 47, _, _, _, _, _⟩) (v := undef) rfl (by kernel_rfl) (by kernel_rfl) (by kernel_rfl) (fun _ _ _ h => h) (.inr ⟨by kernel_rfl, rfl⟩) hSs ?_
        try go_frame
        refine wpAnyH_take (i := 11) (oi := ⟨some 48, _, _, _, _, _⟩) (v := undef) rfl (by kernel_rfl) (by kernel_rfl) (by kernel_rfl) (fun _ _ _ h => h) (.inr ⟨by kernel_rfl, rfl⟩) hSs ?_
        try go_frame
        refine thB (i := 12) (oi := ⟨some 49, _, _, _, _, _⟩) (v := .bool false) hSs ?_
        try go_frame
        refine wpAnyH_ready (rs := [13]) (by kernel_rfl) (by simp) (AllReadyH.cons rfl (fun K hK => ?_) AllReadyH.nil)
        go_simp
        refine (HC.out _ (hb_1.drew) ).mono ?_
        rintro e u_2 ⟨rfl, hq_2⟩
        have hb_2 := (hb_1.drew).trans (hq_2.mono (hb_1.drew).size)
        refine hK.out _ _ (HSS.out _ hb_2) (fun hS_2 => ?_)
        clear hK K
        try go_frame
        refine thB (i := 14) (oi := ⟨some 51, _, _, _, _, _⟩) (v := .bool false) hS_2 ?_
        try go_frame
        refine wpAnyH_done (by kernel_rfl) ?_ _
        have hbx := hb_2
        obtain ⟨wx, hwx⟩ : ∃ wx, wx = u_2 := ⟨_, rfl⟩
        rw [← hwx] at hbx ⊢
        clear hwx
        have hbw8 := hbw.trans (hbx.mono hbs)
        have L8 := L2.out.below hbx L2.out.lt
        have c08 := L8.cell 0
        have c38 := L8.cell 3
        simp at c08 c38
        go_wp2_with fail
        go_loopw [8] (fun x wr2 => x = .int .i64 1 ∧ Lies wr2 w.heap.size 24 #[.int .i64 6, .int .i64 n, .string s, .slice (some ⟨g, o, none⟩) m c] ∧ Below w.heap.size w wr2) (fun _ _ => 0)
        case atStart => exact ⟨rfl, L8, hbw8⟩
        case round =>
         obtain ⟨rfl, L9, hbw9⟩ := hrel
         have c09 := L9.cell 0
         simp at c09
         go_wp2_with fail
         all_goals
          go_roundw
          case rel =>
           refine ⟨i + 1, by omega, by go_num, ?_, L9, hbw9⟩
           show _ = _
           rw [HQ.out, HS.out, HT1.out]
           simp
          case measure => simp [intOf]; omega
      ·go_wp2_with fail
       go_ret
       exact ⟨ret_bool (by rw [HE.out, HQ.out, List.drop_eq_nil_of_le (by omega), mayQL]), hbw⟩
    ·have HE : Hid (U = mayQL 5 [] l free) := Lib.hid (by rw [hE]; simp [moreE])
     have HK5 : (5 : Int) = 5 := rfl
     clear hE h6
     go_enter Tryz.func30, Tryz.ntmps30
     go_wp2_with fail
     refine HH.out.mono ?_
     rintro e w1 ⟨rfl, hb1⟩
     have l1 := l0.below hb1 l0.lt
     have hbw1 := hb0.trans (hb1.mono hb0.size)
     have k0 := l1.cell 0
     have k1 := l1.cell 1
     simp at k0 k1
     go_wp2_with fail
     go_loopw [7] (fun x wr => ∃ i : Nat, i ≤ m ∧ x = .int .i64 i ∧ Hid (mayQL 5 [] l (free) = mayQL 5 (l.take i) (l.drop i) (free)) ∧ Lies wr w.heap.size 24 #[.int .i64 5, .int .i64 n, .string s, .slice A m c] ∧ Below w.heap.size w wr) (fun x _ => m - (intOf x).toNat)
     case atStart => exact ⟨0, by omega, rfl, by exact rfl, l1, hbw1⟩
     case round =>
      obtain ⟨i, hi, rfl, HQ, l2, hbw⟩ := hrel
      have hbs := hbw.size
      have c0 := l2.cell 0
      have c3 := l2.cell 3
      simp at c0 c3
      by_cases hlt : i < m
      ·have hia : i < l.length := by omega
       obtain ⟨g, o, B, b, ⟨hA, _⟩, d0, d1, d2, d3, hIn⟩ := EIn.part (EIn.below _ HI.out hbw (Nat.le_refl _)) i hia
       subst hA
       have hm5 := depthEL_mem l (l[i]'hia) (List.getElem_mem hia)
       simp only [Te.parts] at d0 d1 d2 d3 hIn
       by_cases hi0 : i < 1
       ·have hi9 : ¬ (0 : Int) < (i : Int) := by omega
        have HD0 : Hid (∀ X, dupAt ((l.take i).drop 1) X = false) := Lib.hid fun X => by rw [List.drop_eq_nil_of_le (by simp; omega)]; rfl
        have hi8 : decide ((0 : Int) < (i : Int)) = false := decide_eq_false hi9
        have HT1 : Hid (l.take (i + 1) = l.take i ++ [l[i]'hia]) := Lib.hid (List.take_succ_eq_append_getElem hia)
        have HS : Hid (mayQL 5 (l.take i) (l.drop i) (free) = (mayQ (l[i]'hia) (free) false && ((!true || !dupAt ((l.take i).drop 1) (l[i]'hia).name) && mayQL 5 (l.take i ++ [l[i]'hia]) (l.drop (i + 1)) (free)))) := by
         refine Lib.hid ?_
         have e1 : (decide ((5 : Int) = 5) && decide (0 < (l.take i).length)) = false := by simp; omega
         have e2 : decide ((5 : Int) = 5) = true := by simp
         rw [List.drop_eq_getElem_cons hia, mayQL, e1, e2]
        obtain ⟨tr, hu⟩ : ∃ tr, tr = l[i]'hia := ⟨_, rfl⟩
        have HTI : Hid (l[i]'hia = tr) := Lib.hid hu.symm
        rw [← hu] at d0 d1 d2 d3 hIn HS hm5 HT1
        clear hu
        obtain ⟨tk, tn, ts, tl⟩ := tr
        simp only [Te.kind, Te.n, Te.name] at d0 d1 d2 d3 HS
        have HC : Hid (∀ X, Below wr.heap.size wr X → Calls Tryz.prog 30 #[.agg #[.int .i64 tk, .int .i64 tn, .string ts, .slice B tl.length (capF tl.length b)], .int .i64 free, .bool false] X fun e w' => e = .returned (.bool (mayQ (.node tk tn ts tl) (free) false)) ∧ Below X.heap.size X w') := Lib.hid fun X hX =>
         ih (.node tk tn ts tl) B b free false X (by omega) (by omega) (by omega) (by omega) (EIn.below _ hIn hX (Nat.le_refl _))
        have hgl := cell_lt d0
        have HSS : Hid (∀ V', Below wr.heap.size wr V' → (fun V' : World => (V'.cell? ⟨w.heap.size, 0, none⟩ = some (.int .i64 5) ∧ V'.cell? ⟨w.heap.size, 3, none⟩ = some (.slice (some ⟨g, o, none⟩) m c) ∧ V'.cell? ⟨g, o + i * 4, none⟩ = some (.int .i64 tk) ∧ V'.cell? ⟨g, o + i * 4 + 1, none⟩ = some (.int .i64 tn) ∧ V'.cell? ⟨g, o + i * 4 + 2, none⟩ = some (.string ts) ∧ V'.cell? ⟨g, o + i * 4 + 3, none⟩ = some (.slice B tl.length (capF tl.length b)))) V') := Lib.hid fun V' h =>
         ⟨(h.cell (p := ⟨w.heap.size, 0, none⟩) l2.lt).trans c0, (h.cell (p := ⟨w.heap.size, 3, none⟩) l2.lt).trans c3, (h.cell (p := ⟨g, _, none⟩) hgl).trans d0, (h.cell (p := ⟨g, _, none⟩) hgl).trans d1, (h.cell (p := ⟨g, _, none⟩) hgl).trans d2, (h.cell (p := ⟨g, _, none⟩) hgl).trans d3⟩
        have L2 := Lib.hid l2
        clear l2 hIn
        cases hq : mayQ (.node tk tn ts tl) (free) false
        ·rw [hq] at HC HS
         clear hq
         go_upto_region 10 with fail
         clear c0 c3 d0 d1 d2 d3
         have hb_1 : Below wr.heap.size wr wr := Below.refl _ _
         refine wp_region_held_drew (S := (fun V' : World => (V'.cell? ⟨w.heap.size, 0, none⟩ = some (.int .i64 5) ∧ V'.cell? ⟨w.heap.size, 3, none⟩ = some (.slice (some ⟨g, o, none⟩) m c) ∧ V'.cell? ⟨g, o + i * 4, none⟩ = some (.int .i64 tk) ∧ V'.cell? ⟨g, o + i * 4 + 1, none⟩ = some (.int .i64 tn) ∧ V'.cell? ⟨g, o + i * 4 + 2, none⟩ = some (.string ts) ∧ V'.cell? ⟨g, o + i * 4 + 3, none⟩ = some (.slice B tl.length (capF tl.length b))))) rfl (HSS.out _ hb_1.drew) (fun hSs => ?_)
         change wpAnyH _ _ _ _ _ 15 (Array.replicate 15 false) _ _
         refine thA (i := 0) (oi := ⟨some 37, _, _, _, _, _⟩) (v := .pointer (some ⟨w.heap.size, 3, none⟩)) hSs ?_
         try go_frame
         refine thA (i := 1) (oi := ⟨some 38, _, _, _, _, _⟩) (v := .slice (some ⟨g, o, none⟩) m c) hSs ?_
         try go_frame
         refine thB (i := 2) (oi := ⟨some 39, _, _, _, _, _⟩) (v := .int .i64 (i : Int)) hSs ?_
         try go_frame
         refine thA (i := 3) (oi := ⟨some 40, _, _, _, _, _⟩) (v := .pointer (some ⟨g, o + i * 4, none⟩)) hSs ?_
         try go_frame
         refine thA (i := 4) (oi := ⟨some 41, _, _, _, _, _⟩) (v := .agg #[.int .i64 tk, .int .i64 tn, .string ts, .slice B tl.length (capF tl.length b)]) hSs ?_
         try go_frame
         refine thB (i := 5) (oi := ⟨some 42, _, _, _, _, _⟩) (v := .int .i64 free) hSs ?_
         try go_frame
         refine thA (i := 6) (oi := ⟨some 43, _, _, _, _, _⟩) (v := .pointer (some ⟨w.heap.size, 0, none⟩)) hSs ?_
         try go_frame
         refine thA (i := 7) (oi := ⟨some 44, _, _, _, _, _⟩) (v := .int .i64 5) hSs ?_
         try go_frame
         refine thA (i := 8) (oi := ⟨some 45, _, _, _, _, _⟩) (v := .bool true) hSs ?_
         try go_frame
         refine thB (i := 9) (oi := ⟨some 46, _, _, _, _, _⟩) (v := .bool true) hSs ?_
         try go_frame
         refine thB (i := 10) (oi := ⟨some 47, _, _, _, _, _⟩) (v := .int .i64 (i : Int)) hSs ?_
         try go_frame
         refine thA (i := 11) (oi := ⟨some 48, _, _, _, _, _⟩) (v := .bool false) hSs ?_
         try go_frame
         refine thB (i := 12) (oi := ⟨some 49, _, _, _, _, _⟩) (v := .bool false) hSs ?_
         try go_frame
         refine wpAnyH_ready (rs := [13]) (by kernel_rfl) (by simp) (AllReadyH.cons rfl (fun K hK => ?_) AllReadyH.nil)
         go_simp
         refine (HC.out _ (hb_1.drew) ).mono ?_
         rintro e u_2 ⟨rfl, hq_2⟩
         have hb_2 := (hb_1.drew).trans (hq_2.mono (hb_1.drew).size)
         refine hK.out _ _ (HSS.out _ hb_2) (fun hS_2 => ?_)
         clear hK K
         try go_frame
         refine thB (i := 14) (oi := ⟨some 51, _, _, _, _, _⟩) (v := .bool true) hS_2 ?_
         try go_frame
         refine wpAnyH_done (by kernel_rfl) ?_ _
         have hbx := hb_2
         go_wp2_with fail
         go_ret
         exact ⟨ret_bool (by rw [HE.out, HQ.out, HS.out]; rfl), hbw.trans (hbx.mono hbs)⟩
        ·rw [hq] at HC HS
         clear hq
         go_upto_region 10 with fail
         clear c0 c3 d0 d1 d2 d3
         have hb_1 : Below wr.heap.size wr wr := Below.refl _ _
         refine wp_region_held_drew (S := (fun V' : World => (V'.cell? ⟨w.heap.size, 0, none⟩ = some (.int .i64 5) ∧ V'.cell? ⟨w.heap.size, 3, none⟩ = some (.slice (some ⟨g, o, none⟩) m c) ∧ V'.cell? ⟨g, o + i * 4, none⟩ = some (.int .i64 tk) ∧ V'.cell? ⟨g, o + i * 4 + 1, none⟩ = some (.int .i64 tn) ∧ V'.cell? ⟨g, o + i * 4 + 2, none⟩ = some (.string ts) ∧ V'.cell? ⟨g, o + i * 4 + 3, none⟩ = some (.slice B tl.length (capF tl.length b))))) rfl (HSS.out _ hb_1.drew) (fun hSs => ?_)
         change wpAnyH _ _ _ _ _ 15 (Array.replicate 15 false) _ _
         refine thA (i := 0) (oi := ⟨some 37, _, _, _, _, _⟩) (v := .pointer (some ⟨w.heap.size, 3, none⟩)) hSs ?_
         try go_frame
         refine thA (i := 1) (oi := ⟨some 38, _, _, _, _, _⟩) (v := .slice (some ⟨g, o, none⟩) m c) hSs ?_
         try go_frame
         refine thB (i := 2) (oi := ⟨some 39, _, _, _, _, _⟩) (v := .int .i64 (i : Int)) hSs ?_
         try go_frame
         refine thA (i := 3) (oi := ⟨some 40, _, _, _, _, _⟩) (v := .pointer (some ⟨g, o + i * 4, none⟩)) hSs ?_
         try go_frame
         refine thA (i := 4) (oi := ⟨some 41, _, _, _, _, _⟩) (v := .agg #[.int .i64 tk, .int .i64 tn, .string ts, .slice B tl.length (capF tl.length b)]) hSs ?_
         try go_frame
         refine thB (i := 5) (oi := ⟨some 42, _, _, _, _, _⟩) (v := .int .i64 free) hSs ?_
         try go_frame
         refine thA (i := 6) (oi := ⟨some 43, _, _, _, _, _⟩) (v := .pointer (some ⟨w.heap.size, 0, none⟩)) hSs ?_
         try go_frame
         refine thA (i := 7) (oi := ⟨some 44, _, _, _, _, _⟩) (v := .int .i64 5) hSs ?_
         try go_frame
         refine thA (i := 8) (oi := ⟨some 45, _, _, _, _, _⟩) (v := .bool true) hSs ?_
         try go_frame
         refine thB (i := 9) (oi := ⟨some 46, _, _, _, _, _⟩) (v := .bool true) hSs ?_
         try go_frame
         refine thB (i := 10) (oi := ⟨some 47, _, _, _, _, _⟩) (v := .int .i64 (i : Int)) hSs ?_
         try go_frame
         refine thA (i := 11) (oi := ⟨some 48, _, _, _, _, _⟩) (v := .bool false) hSs ?_
         try go_frame
         refine thB (i := 12) (oi := ⟨some 49, _, _, _, _, _⟩) (v := .bool false) hSs ?_
         try go_frame
         refine wpAnyH_ready (rs := [13]) (by kernel_rfl) (by simp) (AllReadyH.cons rfl (fun K hK => ?_) AllReadyH.nil)
         go_simp
         refine (HC.out _ (hb_1.drew) ).mono ?_
         rintro e u_2 ⟨rfl, hq_2⟩
         have hb_2 := (hb_1.drew).trans (hq_2.mono (hb_1.drew).size)
         refine hK.out _ _ (HSS.out _ hb_2) (fun hS_2 => ?_)
         clear hK K
         try go_frame
         refine thB (i := 14) (oi := ⟨some 51, _, _, _, _, _⟩) (v := .bool false) hS_2 ?_
         try go_frame
         refine wpAnyH_done (by kernel_rfl) ?_ _
         have hbx := hb_2
         obtain ⟨wx, hwx⟩ : ∃ wx, wx = u_2 := ⟨_, rfl⟩
         rw [← hwx] at hbx ⊢
         clear hwx
         have hbw8 := hbw.trans (hbx.mono hbs)
         have L8 := L2.out.below hbx L2.out.lt
         have c08 := L8.cell 0
         have c38 := L8.cell 3
         simp at c08 c38
         go_wp2_with fail
         go_loopw [8] (fun x wr2 => x = .int .i64 1 ∧ Lies wr2 w.heap.size 24 #[.int .i64 5, .int .i64 n, .string s, .slice (some ⟨g, o, none⟩) m c] ∧ Below w.heap.size w wr2) (fun _ _ => 0)
         case atStart => exact ⟨rfl, L8, hbw8⟩
         case round =>
          obtain ⟨rfl, L9, hbw9⟩ := hrel
          have c09 := L9.cell 0
          simp at c09
          go_wp2_with fail
          all_goals
           go_roundw
           case rel =>
            refine ⟨i + 1, by omega, by go_num, ?_, L9, hbw9⟩
            show _ = _
            rw [HQ.out, HS.out, HT1.out, HD0.out]
            simp
           case measure => simp [intOf]; omega
       ·have hi1 : 0 < i := by omega
        have hi9 : (0 : Int) < (i : Int) := by omega
        have HT1 : Hid (l.take (i + 1) = l.take i ++ [l[i]'hia]) := Lib.hid (List.take_succ_eq_append_getElem hia)
        have HS : Hid (mayQL 5 (l.take i) (l.drop i) (free) = (mayQ (l[i]'hia) (free) true && ((!true || !dupAt ((l.take i).drop 1) (l[i]'hia).name) && mayQL 5 (l.take i ++ [l[i]'hia]) (l.drop (i + 1)) (free)))) := by
         refine Lib.hid ?_
         have e1 : (decide ((5 : Int) = 5) && decide (0 < (l.take i).length)) = true := by simp; omega
         have e2 : decide ((5 : Int) = 5) = true := by simp
         rw [List.drop_eq_getElem_cons hia, mayQL, e1, e2]
        obtain ⟨tr, hu⟩ : ∃ tr, tr = l[i]'hia := ⟨_, rfl⟩
        have HTI : Hid (l[i]'hia = tr) := Lib.hid hu.symm
        rw [← hu] at d0 d1 d2 d3 hIn HS hm5 HT1
        clear hu
        obtain ⟨tk, tn, ts, tl⟩ := tr
        simp only [Te.kind, Te.n, Te.name] at d0 d1 d2 d3 HS
        have HC : Hid (∀ X, Below wr.heap.size wr X → Calls Tryz.prog 30 #[.agg #[.int .i64 tk, .int .i64 tn, .string ts, .slice B tl.length (capF tl.length b)], .int .i64 free, .bool true] X fun e w' => e = .returned (.bool (mayQ (.node tk tn ts tl) (free) true)) ∧ Below X.heap.size X w') := Lib.hid fun X hX =>
         ih (.node tk tn ts tl) B b free true X (by omega) (by omega) (by omega) (by omega) (EIn.below _ hIn hX (Nat.le_refl _))
        have hgl := cell_lt d0
        have HSS : Hid (∀ V', Below wr.heap.size wr V' → (fun V' : World => (V'.cell? ⟨w.heap.size, 0, none⟩ = some (.int .i64 5) ∧ V'.cell? ⟨w.heap.size, 3, none⟩ = some (.slice (some ⟨g, o, none⟩) m c) ∧ V'.cell? ⟨g, o + i * 4, none⟩ = some (.int .i64 tk) ∧ V'.cell? ⟨g, o + i * 4 + 1, none⟩ = some (.int .i64 tn) ∧ V'.cell? ⟨g, o + i * 4 + 2, none⟩ = some (.string ts) ∧ V'.cell? ⟨g, o + i * 4 + 3, none⟩ = some (.slice B tl.length (capF tl.length b)))) V') := Lib.hid fun V' h =>
         ⟨(h.cell (p := ⟨w.heap.size, 0, none⟩) l2.lt).trans c0, (h.cell (p := ⟨w.heap.size, 3, none⟩) l2.lt).trans c3, (h.cell (p := ⟨g, _, none⟩) hgl).trans d0, (h.cell (p := ⟨g, _, none⟩) hgl).trans d1, (h.cell (p := ⟨g, _, none⟩) hgl).trans d2, (h.cell (p := ⟨g, _, none⟩) hgl).trans d3⟩
        have L2 := Lib.hid l2
        clear l2 hIn
        cases hq : mayQ (.node tk tn ts tl) (free) true
        ·rw [hq] at HC HS
         clear hq
         go_upto_region 10 with fail
         clear c0 c3 d0 d1 d2 d3
         have hb_1 : Below wr.heap.size wr wr := Below.refl _ _
         refine wp_region_held_drew (S := (fun V' : World => (V'.cell? ⟨w.heap.size, 0, none⟩ = some (.int .i64 5) ∧ V'.cell? ⟨w.heap.size, 3, none⟩ = some (.slice (some ⟨g, o, none⟩) m c) ∧ V'.cell? ⟨g, o + i * 4, none⟩ = some (.int .i64 tk) ∧ V'.cell? ⟨g, o + i * 4 + 1, none⟩ = some (.int .i64 tn) ∧ V'.cell? ⟨g, o + i * 4 + 2, none⟩ = some (.string ts) ∧ V'.cell? ⟨g, o + i * 4 + 3, none⟩ = some (.slice B tl.length (capF tl.length b))))) rfl (HSS.out _ hb_1.drew) (fun hSs => ?_)
         change wpAnyH _ _ _ _ _ 15 (Array.replicate 15 false) _ _
         refine thA (i := 0) (oi := ⟨some 37, _, _, _, _, _⟩) (v := .pointer (some ⟨w.heap.size, 3, none⟩)) hSs ?_
         try go_frame
         refine thA (i := 1) (oi := ⟨some 38, _, _, _, _, _⟩) (v := .slice (some ⟨g, o, none⟩) m c) hSs ?_
         try go_frame
         refine thB (i := 2) (oi := ⟨some 39, _, _, _, _, _⟩) (v := .int .i64 (i : Int)) hSs ?_
         try go_frame
         refine thA (i := 3) (oi := ⟨some 40, _, _, _, _, _⟩) (v := .pointer (some ⟨g, o + i * 4, none⟩)) hSs ?_
         try go_frame
         refine thA (i := 4) (oi := ⟨some 41, _, _, _, _, _⟩) (v := .agg #[.int .i64 tk, .int .i64 tn, .string ts, .slice B tl.length (capF tl.length b)]) hSs ?_
         try go_frame
         refine thB (i := 5) (oi := ⟨some 42, _, _, _, _, _⟩) (v := .int .i64 free) hSs ?_
         try go_frame
         refine thA (i := 6) (oi := ⟨some 43, _, _, _, _, _⟩) (v := .pointer (some ⟨w.heap.size, 0, none⟩)) hSs ?_
         try go_frame
         refine thA (i := 7) (oi := ⟨some 44, _, _, _, _, _⟩) (v := .int .i64 5) hSs ?_
         try go_frame
         refine thA (i := 8) (oi := ⟨some 45, _, _, _, _, _⟩) (v := .bool true) hSs ?_
         try go_frame
         refine thB (i := 9) (oi := ⟨some 46, _, _, _, _, _⟩) (v := .bool true) hSs ?_
         try go_frame
         refine thB (i := 10) (oi := ⟨some 47, _, _, _, _, _⟩) (v := .int .i64 (i : Int)) hSs ?_
         try go_frame
         refine thA (i := 11) (oi := ⟨some 48, _, _, _, _, _⟩) (v := .bool true) hSs ?_
         try go_frame
         refine thB (i := 12) (oi := ⟨some 49, _, _, _, _, _⟩) (v := .bool true) hSs ?_
         try go_frame
         refine wpAnyH_ready (rs := [13]) (by kernel_rfl) (by simp) (AllReadyH.cons rfl (fun K hK => ?_) AllReadyH.nil)
         go_simp
         refine (HC.out _ (hb_1.drew) ).mono ?_
         rintro e u_2 ⟨rfl, hq_2⟩
         have hb_2 := (hb_1.drew).trans (hq_2.mono (hb_1.drew).size)
         refine hK.out _ _ (HSS.out _ hb_2) (fun hS_2 => ?_)
         clear hK K
         try go_frame
         refine thB (i := 14) (oi := ⟨some 51, _, _, _, _, _⟩) (v := .bool true) hS_2 ?_
         try go_frame
         refine wpAnyH_done (by kernel_rfl) ?_ _
         have hbx := hb_2
         go_wp2_with fail
         go_ret
         exact ⟨ret_bool (by rw [HE.out, HQ.out, HS.out]; rfl), hbw.trans (hbx.mono hbs)⟩
        ·rw [hq] at HC HS
         clear hq
         go_upto_region 10 with fail
         clear c0 c3 d0 d1 d2 d3
         have hb_1 : Below wr.heap.size wr wr := Below.refl _ _
         refine wp_region_held_drew (S := (fun V' : World => (V'.cell? ⟨w.heap.size, 0, none⟩ = some (.int .i64 5) ∧ V'.cell? ⟨w.heap.size, 3, none⟩ = some (.slice (some ⟨g, o, none⟩) m c) ∧ V'.cell? ⟨g, o + i * 4, none⟩ = some (.int .i64 tk) ∧ V'.cell? ⟨g, o + i * 4 + 1, none⟩ = some (.int .i64 tn) ∧ V'.cell? ⟨g, o + i * 4 + 2, none⟩ = some (.string ts) ∧ V'.cell? ⟨g, o + i * 4 + 3, none⟩ = some (.slice B tl.length (capF tl.length b))))) rfl (HSS.out _ hb_1.drew) (fun hSs => ?_)
         change wpAnyH _ _ _ _ _ 15 (Array.replicate 15 false) _ _
         refine thA (i := 0) (oi := ⟨some 37, _, _, _, _, _⟩) (v := .pointer (some ⟨w.heap.size, 3, none⟩)) hSs ?_
         try go_frame
         refine thA (i := 1) (oi := ⟨some 38, _, _, _, _, _⟩) (v := .slice (some ⟨g, o, none⟩) m c) hSs ?_
         try go_frame
         refine thB (i := 2) (oi := ⟨some 39, _, _, _, _, _⟩) (v := .int .i64 (i : Int)) hSs ?_
         try go_frame
         refine thA (i := 3) (oi := ⟨some 40, _, _, _, _, _⟩) (v := .pointer (some ⟨g, o + i * 4, none⟩)) hSs ?_
         try go_frame
         refine thA (i := 4) (oi := ⟨some 41, _, _, _, _, _⟩) (v := .agg #[.int .i64 tk, .int .i64 tn, .string ts, .slice B tl.length (capF tl.length b)]) hSs ?_
         try go_frame
         refine thB (i := 5) (oi := ⟨some 42, _, _, _, _, _⟩) (v := .int .i64 free) hSs ?_
         try go_frame
         refine thA (i := 6) (oi := ⟨some 43, _, _, _, _, _⟩) (v := .pointer (some ⟨w.heap.size, 0, none⟩)) hSs ?_
         try go_frame
         refine thA (i := 7) (oi := ⟨some 44, _, _, _, _, _⟩) (v := .int .i64 5) hSs ?_
         try go_frame
         refine thA (i := 8) (oi := ⟨some 45, _, _, _, _, _⟩) (v := .bool true) hSs ?_
         try go_frame
         refine thB (i := 9) (oi := ⟨some 46, _, _, _, _, _⟩) (v := .bool true) hSs ?_
         try go_frame
         refine thB (i := 10) (oi := ⟨some 47, _, _, _, _, _⟩) (v := .int .i64 (i : Int)) hSs ?_
         try go_frame
         refine thA (i := 11) (oi := ⟨some 48, _, _, _, _, _⟩) (v := .bool true) hSs ?_
         try go_frame
         refine thB (i := 12) (oi := ⟨some 49, _, _, _, _, _⟩) (v := .bool true) hSs ?_
         try go_frame
         refine wpAnyH_ready (rs := [13]) (by kernel_rfl) (by simp) (AllReadyH.cons rfl (fun K hK => ?_) AllReadyH.nil)
         go_simp
         refine (HC.out _ (hb_1.drew) ).mono ?_
         rintro e u_2 ⟨rfl, hq_2⟩
         have hb_2 := (hb_1.drew).trans (hq_2.mono (hb_1.drew).size)
         refine hK.out _ _ (HSS.out _ hb_2) (fun hS_2 => ?_)
         clear hK K
         try go_frame
         refine thB (i := 14) (oi := ⟨some 51, _, _, _, _, _⟩) (v := .bool false) hS_2 ?_
         try go_frame
         refine wpAnyH_done (by kernel_rfl) ?_ _
         have hbx := hb_2
         obtain ⟨wx, hwx⟩ : ∃ wx, wx = u_2 := ⟨_, rfl⟩
         rw [← hwx] at hbx ⊢
         clear hwx
         have hbw8 := hbw.trans (hbx.mono hbs)
         have L8 := L2.out.below hbx L2.out.lt
         have c08 := L8.cell 0
         have c38 := L8.cell 3
         simp at c08 c38
         obtain ⟨NM, hNM⟩ : ∃ q, q = ts := ⟨_, rfl⟩
         have HNM := Lib.hid hNM
         clear hNM
         go_wp2_with fail
         go_loopw [8] (fun x wr2 => ∃ q : Nat, 1 ≤ q ∧ q ≤ i ∧ x = .int .i64 q ∧ Hid (dupAt ((l.take i).drop 1) NM = dupAt ((l.take i).drop q) NM) ∧ Lies wr2 w.heap.size 24 #[.int .i64 5, .int .i64 n, .string s, .slice (some ⟨g, o, none⟩) m c] ∧ Below w.heap.size w wr2) (fun x _ => i - (intOf x).toNat)
         case atStart => exact ⟨1, by omega, by omega, rfl, by exact rfl, L8, hbw8⟩
         case round =>
          obtain ⟨q, hq1, hq2, rfl, HD, L9, hbw9⟩ := hrel
          have c09 := L9.cell 0
          have c39 := L9.cell 3
          simp at c09 c39
          by_cases hqi : q < i
          ·have hqa : q < l.length := by omega
           obtain ⟨g2, o2, B2, b2, ⟨hA2, _⟩, e0, e1, e2, e3, _⟩ := EIn.part (EIn.below _ HI.out hbw9 (Nat.le_refl _)) q hqa
           injection hA2 with hA2
           injection hA2 with hA2 hA3
           subst hA2 hA3
           obtain ⟨g3, o3, B3, b3, ⟨hA4, _⟩, f0, f1, f2, f3, _⟩ := EIn.part (EIn.below _ HI.out hbw9 (Nat.le_refl _)) i hia
           injection hA4 with hA4
           injection hA4 with hA4 hA5
           subst hA4 hA5
           simp only [Te.parts] at e2 f2
           have HDS : Hid (dupAt ((l.take i).drop q) NM = (decide ((l[q]'hqa).name = NM) || dupAt ((l.take i).drop (q + 1)) NM)) := Lib.hid (dup_step l i q NM hqi hqa)
           obtain ⟨Q, hQ⟩ : ∃ Q, Q = (l[q]'hqa).name := ⟨_, rfl⟩
           rw [← hQ] at e2 HDS
           have hNN : (l[i]'hia).name = NM := by rw [HTI.out, HNM.out]; rfl
           rw [hNN] at f2
           clear hQ hNN e0 e1 e3 f0 f1 f3
           by_cases heq : Q = NM
           ·have heq' : (Q.toList == NM.toList) = true := by rw [heq]; simp
            rw [heq] at HDS e2
            clear heq heq'
            go_wp2_with fail
            go_quiet (fail)
            go_wp2_with fail
            go_ret
            refine ⟨ret_bool ?_, belowN hbw9 nq⟩
            rw [HE.out, HQ.out, HS.out, ← HNM.out, HD.out, HDS.out]
            simp
           ·have heq' := strE_nb heq
            have HNQ := Lib.hid heq
            clear heq
            go_wp2_with fail
            go_quiet (fail)
            go_wp2_with fail
            go_roundw
            case rel =>
             refine ⟨q + 1, by omega, by omega, by go_num, ?_, L9.drewN nq, belowN hbw9 nq⟩
             show _ = _
             rw [HD.out, HDS.out]
             simp [HNQ.out]
            case measure => simp [intOf]; omega
          ·go_wp2_with fail
           go_roundw
           case rel =>
            refine ⟨i + 1, by omega, by go_num, ?_, L9, hbw9⟩
            have hdn : dupAt ((l.take i).drop q) NM = false := by rw [List.drop_eq_nil_of_le (by simp; omega)]; rfl
            show _ = _
            rw [HQ.out, HS.out, HT1.out, ← HNM.out, HD.out, hdn]
            simp
           case measure => simp [intOf]; omega
      ·go_wp2_with fail
       go_ret
       exact ⟨ret_bool (by rw [HE.out, HQ.out, List.drop_eq_nil_of_le (by omega), mayQL]), hbw⟩
    ·have HE : Hid (U = mayQL k [] l free) := Lib.hid (by rw [hE]; simp [moreE, n2, n6])
     have HK5 : ¬ k = 5 := n5
     have e2 : (k == 2) = false := by simpa using n2
     have e5 : (k == 5) = false := by simpa using n5
     have e6 : (k == 6) = false := by simpa using n6
     clear hE h6 n2 n6 n5
     go_enter Tryz.func30, Tryz.ntmps30
     go_wp2_with fail
     refine HH.out.mono ?_
     rintro e w1 ⟨rfl, hb1⟩
     have l1 := l0.below hb1 l0.lt
     have hbw1 := hb0.trans (hb1.mono hb0.size)
     have k0 := l1.cell 0
     have k1 := l1.cell 1
     simp at k0 k1
     go_wp2_with fail
     go_loopw [7] (fun x wr => ∃ i : Nat, i ≤ m ∧ x = .int .i64 i ∧ Hid (mayQL k [] l (free) = mayQL k (l.take i) (l.drop i) (free)) ∧ Lies wr w.heap.size 24 #[.int .i64 k, .int .i64 n, .string s, .slice A m c] ∧ Below w.heap.size w wr) (fun x _ => m - (intOf x).toNat)
     case atStart => exact ⟨0, by omega, rfl, by exact rfl, l1, hbw1⟩
     case round =>
      obtain ⟨i, hi, rfl, HQ, l2, hbw⟩ := hrel
      have hbs := hbw.size
      have c0 := l2.cell 0
      have c3 := l2.cell 3
      simp at c0 c3
      by_cases hlt : i < m
      ·have hia : i < l.length := by omega
       obtain ⟨g, o, B, b, ⟨hA, _⟩, d0, d1, d2, d3, hIn⟩ := EIn.part (EIn.below _ HI.out hbw (Nat.le_refl _)) i hia
       subst hA
       have hm5 := depthEL_mem l (l[i]'hia) (List.getElem_mem hia)
       simp only [Te.parts] at d0 d1 d2 d3 hIn
       have HT1 : Hid (l.take (i + 1) = l.take i ++ [l[i]'hia]) := Lib.hid (List.take_succ_eq_append_getElem hia)
       have HS : Hid (mayQL k (l.take i) (l.drop i) (free) = (mayQ (l[i]'hia) (free) false && ((!false || !dupAt ((l.take i).drop 1) (l[i]'hia).name) && mayQL k (l.take i ++ [l[i]'hia]) (l.drop (i + 1)) (free)))) := by
        refine Lib.hid ?_
        have e1 : (decide ((k : Int) = 5) && decide (0 < (l.take i).length)) = false := by simp [HK5]
        have e2 : decide ((k : Int) = 5) = false := by simp [HK5]
        rw [List.drop_eq_getElem_cons hia, mayQL, e1, e2]
       obtain ⟨tr, hu⟩ : ∃ tr, tr = l[i]'hia := ⟨_, rfl⟩
       have HTI : Hid (l[i]'hia = tr) := Lib.hid hu.symm
       rw [← hu] at d0 d1 d2 d3 hIn HS hm5 HT1
       clear hu
       obtain ⟨tk, tn, ts, tl⟩ := tr
       simp only [Te.kind, Te.n, Te.name] at d0 d1 d2 d3 HS
       have HC : Hid (∀ X, Below wr.heap.size wr X → Calls Tryz.prog 30 #[.agg #[.int .i64 tk, .int .i64 tn, .string ts, .slice B tl.length (capF tl.length b)], .int .i64 free, .bool false] X fun e w' => e = .returned (.bool (mayQ (.node tk tn ts tl) (free) false)) ∧ Below X.heap.size X w') := Lib.hid fun X hX =>
        ih (.node tk tn ts tl) B b free false X (by omega) (by omega) (by omega) (by omega) (EIn.below _ hIn hX (Nat.le_refl _))
       have hgl := cell_lt d0
       have HSS : Hid (∀ V', Below wr.heap.size wr V' → (fun V' : World => (V'.cell? ⟨w.heap.size, 0, none⟩ = some (.int .i64 k) ∧ V'.cell? ⟨w.heap.size, 3, none⟩ = some (.slice (some ⟨g, o, none⟩) m c) ∧ V'.cell? ⟨g, o + i * 4, none⟩ = some (.int .i64 tk) ∧ V'.cell? ⟨g, o + i * 4 + 1, none⟩ = some (.int .i64 tn) ∧ V'.cell? ⟨g, o + i * 4 + 2, none⟩ = some (.string ts) ∧ V'.cell? ⟨g, o + i * 4 + 3, none⟩ = some (.slice B tl.length (capF tl.length b)))) V') := Lib.hid fun V' h =>
        ⟨(h.cell (p := ⟨w.heap.size, 0, none⟩) l2.lt).trans c0, (h.cell (p := ⟨w.heap.size, 3, none⟩) l2.lt).trans c3, (h.cell (p := ⟨g, _, none⟩) hgl).trans d0, (h.cell (p := ⟨g, _, none⟩) hgl).trans d1, (h.cell (p := ⟨g, _, none⟩) hgl).trans d2, (h.cell (p := ⟨g, _, none⟩) hgl).trans d3⟩
       have L2 := Lib.hid l2
       clear l2 hIn
       cases hq : mayQ (.node tk tn ts tl) (free) false
       ·rw [hq] at HC HS
        clear hq
        go_upto_region 10 with fail
        clear c0 c3 d0 d1 d2 d3
        have hb_1 : Below wr.heap.size wr wr := Below.refl _ _
        refine wp_region_held_drew (S := (fun V' : World => (V'.cell? ⟨w.heap.size, 0, none⟩ = some (.int .i64 k) ∧ V'.cell? ⟨w.heap.size, 3, none⟩ = some (.slice (some ⟨g, o, none⟩) m c) ∧ V'.cell? ⟨g, o + i * 4, none⟩ = some (.int .i64 tk) ∧ V'.cell? ⟨g, o + i * 4 + 1, none⟩ = some (.int .i64 tn) ∧ V'.cell? ⟨g, o + i * 4 + 2, none⟩ = some (.string ts) ∧ V'.cell? ⟨g, o + i * 4 + 3, none⟩ = some (.slice B tl.length (capF tl.length b))))) rfl (HSS.out _ hb_1.drew) (fun hSs => ?_)
        change wpAnyH _ _ _ _ _ 15 (Array.replicate 15 false) _ _
        refine thA (i := 0) (oi := ⟨some 37, _, _, _, _, _⟩) (v := .pointer (some ⟨w.heap.size, 3, none⟩)) hSs ?_
        try go_frame
        refine thA (i := 1) (oi := ⟨some 38, _, _, _, _, _⟩) (v := .slice (some ⟨g, o, none⟩) m c) hSs ?_
        try go_frame
        refine thB (i := 2) (oi := ⟨some 39, _, _, _, _, _⟩) (v := .int .i64 (i : Int)) hSs ?_
        try go_frame
        refine thA (i := 3) (oi := ⟨some 40, _, _, _, _, _⟩) (v := .pointer (some ⟨g, o + i * 4, none⟩)) hSs ?_
        try go_frame
        refine thA (i := 4) (oi := ⟨some 41, _, _, _, _, _⟩) (v := .agg #[.int .i64 tk, .int .i64 tn, .string ts, .slice B tl.length (capF tl.length b)]) hSs ?_
        try go_frame
        refine thB (i := 5) (oi := ⟨some 42, _, _, _, _, _⟩) (v := .int .i64 free) hSs ?_
        try go_frame
        refine thA (i := 6) (oi := ⟨some 43, _, _, _, _, _⟩) (v := .pointer (some ⟨w.heap.size, 0, none⟩)) hSs ?_
        try go_frame
        refine thA (i := 7) (oi := ⟨some 44, _, _, _, _, _⟩) (v := .int .i64 k) hSs ?_
        try go_frame
        refine thA (i := 8) (oi := ⟨some 45, _, _, _, _, _⟩) (v := .bool false) hSs ?_
        try go_frame
        refine thB (i := 9) (oi := ⟨some 46, _, _, _, _, _⟩) (v := .bool false) hSs ?_
        try go_frame
        refine wpAnyH_take (i := 10) (oi := ⟨some 47, _, _, _, _, _⟩) (v := undef) rfl (by kernel_rfl) (by kernel_rfl) (by kernel_rfl) (fun _ _ _ h => h) (.inr ⟨by kernel_rfl, rfl⟩) hSs ?_
        try go_frame
        refine wpAnyH_take (i := 11) (oi := ⟨some 48, _, _, _, _, _⟩) (v := undef) rfl (by kernel_rfl) (by kernel_rfl) (by kernel_rfl) (fun _ _ _ h => h) (.inr ⟨by kernel_rfl, rfl⟩) hSs ?_
        try go_frame
        refine thB (i := 12) (oi := ⟨some 49, _, _, _, _, _⟩) (v := .bool false) hSs ?_
        try go_frame
        refine wpAnyH_ready (rs := [13]) (by kernel_rfl) (by simp) (AllReadyH.cons rfl (fun K hK => ?_) AllReadyH.nil)
        go_simp
        refine (HC.out _ (hb_1.drew) ).mono ?_
        rintro e u_2 ⟨rfl, hq_2⟩
        have hb_2 := (hb_1.drew).trans (hq_2.mono (hb_1.drew).size)
        refine hK.out _ _ (HSS.out _ hb_2) (fun hS_2 => ?_)
        clear hK K
        try go_frame
        refine thB (i := 14) (oi := ⟨some 51, _, _, _, _, _⟩) (v := .bool true) hS_2 ?_
        try go_frame
        refine wpAnyH_done (by kernel_rfl) ?_ _
        have hbx := hb_2
        go_wp2_with fail
        go_ret
        exact ⟨ret_bool (by rw [HE.out, HQ.out, HS.out]; rfl), hbw.trans (hbx.mono hbs)⟩
       ·rw [hq] at HC HS
        clear hq
        go_upto_region 10 with fail
        clear c0 c3 d0 d1 d2 d3
        have hb_1 : Below wr.heap.size wr wr := Below.refl _ _
        refine wp_region_held_drew (S := (fun V' : World => (V'.cell? ⟨w.heap.size, 0, none⟩ = some (.int .i64 k) ∧ V'.cell? ⟨w.heap.size, 3, none⟩ = some (.slice (some ⟨g, o, none⟩) m c) ∧ V'.cell? ⟨g, o + i * 4, none⟩ = some (.int .i64 tk) ∧ V'.cell? ⟨g, o + i * 4 + 1, none⟩ = some (.int .i64 tn) ∧ V'.cell? ⟨g, o + i * 4 + 2, none⟩ = some (.string ts) ∧ V'.cell? ⟨g, o + i * 4 + 3, none⟩ = some (.slice B tl.length (capF tl.length b))))) rfl (HSS.out _ hb_1.drew) (fun hSs => ?_)
        change wpAnyH _ _ _ _ _ 15 (Array.replicate 15 false) _ _
        refine thA (i := 0) (oi := ⟨some 37, _, _, _, _, _⟩) (v := .pointer (some ⟨w.heap.size, 3, none⟩)) hSs ?_
        try go_frame
        refine thA (i := 1) (oi := ⟨some 38, _, _, _, _, _⟩) (v := .slice (some ⟨g, o, none⟩) m c) hSs ?_
        try go_frame
        refine thB (i := 2) (oi := ⟨some 39, _, _, _, _, _⟩) (v := .int .i64 (i : Int)) hSs ?_
        try go_frame
        refine thA (i := 3) (oi := ⟨some 40, _, _, _, _, _⟩) (v := .pointer (some ⟨g, o + i * 4, none⟩)) hSs ?_
        try go_frame
        refine thA (i := 4) (oi := ⟨some 41, _, _, _, _, _⟩) (v := .agg #[.int .i64 tk, .int .i64 tn, .string ts, .slice B tl.length (capF tl.length b)]) hSs ?_
        try go_frame
        refine thB (i := 5) (oi := ⟨some 42, _, _, _, _, _⟩) (v := .int .i64 free) hSs ?_
        try go_frame
        refine thA (i := 6) (oi := ⟨some 43, _, _, _, _, _⟩) (v := .pointer (some ⟨w.heap.size, 0, none⟩)) hSs ?_
        try go_frame
        refine thA (i := 7) (oi := ⟨some 44, _, _, _, _, _⟩) (v := .int .i64 k) hSs ?_
        try go_frame
        refine thA (i := 8) (oi := ⟨some 45, _, _, _, _, _⟩) (v := .bool false) hSs ?_
        try go_frame
        refine thB (i := 9) (oi := ⟨some 46, _, _, _, _, _⟩) (v := .bool false) hSs ?_
        try go_frame
        refine wpAnyH_take (i := 10) (oi := ⟨some 47, _, _, _, _, _⟩) (v := undef) rfl (by kernel_rfl) (by kernel_rfl) (by kernel_rfl) (fun _ _ _ h => h) (.inr ⟨by kernel_rfl, rfl⟩) hSs ?_
        try go_frame
        refine wpAnyH_take (i := 11) (oi := ⟨some 48, _, _, _, _, _⟩) (v := undef) rfl (by kernel_rfl) (by kernel_rfl) (by kernel_rfl) (fun _ _ _ h => h) (.inr ⟨by kernel_rfl, rfl⟩) hSs ?_
        try go_frame
        refine thB (i := 12) (oi := ⟨some 49, _, _, _, _, _⟩) (v := .bool false) hSs ?_
        try go_frame
        refine wpAnyH_ready (rs := [13]) (by kernel_rfl) (by simp) (AllReadyH.cons rfl (fun K hK => ?_) AllReadyH.nil)
        go_simp
        refine (HC.out _ (hb_1.drew) ).mono ?_
        rintro e u_2 ⟨rfl, hq_2⟩
        have hb_2 := (hb_1.drew).trans (hq_2.mono (hb_1.drew).size)
        refine hK.out _ _ (HSS.out _ hb_2) (fun hS_2 => ?_)
        clear hK K
        try go_frame
        refine thB (i := 14) (oi := ⟨some 51, _, _, _, _, _⟩) (v := .bool false) hS_2 ?_
        try go_frame
        refine wpAnyH_done (by kernel_rfl) ?_ _
        have hbx := hb_2
        obtain ⟨wx, hwx⟩ : ∃ wx, wx = u_2 := ⟨_, rfl⟩
        rw [← hwx] at hbx ⊢
        clear hwx
        have hbw8 := hbw.trans (hbx.mono hbs)
        have L8 := L2.out.below hbx L2.out.lt
        have c08 := L8.cell 0
        have c38 := L8.cell 3
        simp at c08 c38
        go_wp2_with fail
        go_loopw [8] (fun x wr2 => x = .int .i64 1 ∧ Lies wr2 w.heap.size 24 #[.int .i64 k, .int .i64 n, .string s, .slice (some ⟨g, o, none⟩) m c] ∧ Below w.heap.size w wr2) (fun _ _ => 0)
        case atStart => exact ⟨rfl, L8, hbw8⟩
        case round =>
         obtain ⟨rfl, L9, hbw9⟩ := hrel
         have c09 := L9.cell 0
         simp at c09
         go_wp2_with fail
         all_goals
          go_roundw
          case rel =>
           refine ⟨i + 1, by omega, by go_num, ?_, L9, hbw9⟩
           show _ = _
           rw [HQ.out, HS.out, HT1.out]
           simp
          case measure => simp [intOf]; omega
      ·go_wp2_with fail
       go_ret
       exact ⟨ret_bool (by rw [HE.out, HQ.out, List.drop_eq_nil_of_le (by omega), mayQL]), hbw⟩
theorem rMay6_any (t : Te) (A : Option Addr) (c : Nat) (free : Int) (w : World) (hI : EIn w Any t A) (hd : depthE t ≤ 12000) (h0 : -1000000 ≤ free) (h1 : free ≤ 1000000) :
  Calls Tryz.prog 17 #[ev t A c, .int .i64 free] w fun e w' => e = .returned (.bool (mayQ t free false)) ∧ Below w.heap.size w w' := by
 obtain ⟨k, n, s, l⟩ := t
 have hb : Below w.heap.size w (w.alloc (.cells #[.int .i64 k, .int .i64 n, .string s, .slice A l.length (capF l.length c)] 24)) := (Below.refl _ w).alloc (Nat.le_refl _) _
 have HM := Lib.hid (rmay6_any (depthE (.node k n s l)) (.node k n s l) A c free false (w.alloc (.cells #[.int .i64 k, .int .i64 n, .string s, .slice A l.length (capF l.length c)] 24)) (Nat.le_refl _) hd h0 (by omega) (EIn.below _ hI hb (Nat.le_refl _)))
 clear hI
 show Calls Tryz.prog 17 #[.agg #[.int .i64 k, .int .i64 n, .string s, .slice A l.length (capF l.length c)], .int .i64 free] w _
 go_enter Tryz.func17, Tryz.ntmps17
 go_wp2_with fail
 refine HM.out.mono ?_
 rintro e w2 ⟨rfl, hb2⟩
 go_wp2_with fail
 go_ret
 exact ⟨rfl, hb.trans (hb2.mono hb.size)⟩
end Lx
end Go.Proofs.YtiocmiikghcoaaaGreatDoor
