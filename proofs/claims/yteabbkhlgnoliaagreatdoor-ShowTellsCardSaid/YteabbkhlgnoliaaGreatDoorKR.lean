/-
  Texts that lie one behind the other: RLev RAt RDig RTxt RLet RTwo RWds RCas RAll RTextA.
-/
import Derived.Test.YteabbkhlgnoliaaGreatDoorKA
import Derived.Test.YteabbkhlgnoliaaGreatDoorK3
import Derived.Test.YteabbkhlgnoliaaGreatDoorK1
import Derived.Test.YteabbkhlgnoliaaGreatDoorKB
import Derived.Laws.IdiomStrings
import Derived.Deep.RegionHeld3
import Derived.Deep.RegionHeld
import Derived.Deep.Cut
namespace Go.Proofs.YteabbkhlgnoliaaGreatDoor
open Go.RowKit
namespace Lx
set_option maxRecDepth 100000
/-- The reference's level of a tree. -/
def levelR (k : Int) (s : List UInt8) (m : Nat) : Int :=
  if k = 2 ∨ k = 4 ∨ k = 5 ∨ k = 7 then 0 else if k = 3 then 4 else if k = 6 then (if 0 < m then 4 else 5) else if k = 10 then (if s == [60] || s == [61, 61] then 1 else if s == [43] || s == [45] then 2 else 3) else 5
theorem levelR_levelN {k : Int} {s : List UInt8} {m : Nat} (h : k = 10 → s = [43] ∨ s = [45] ∨ s = [42] ∨ s = [47] ∨ s = [60] ∨ s = [61, 61]) : levelR k s m = levelN k s m := by
  by_cases k10 : k = 10
  · subst k10
    rcases h rfl with rfl | rfl | rfl | rfl | rfl | rfl <;> simp [levelR, levelN, levelS]
  · by_cases k0 : k = 2 ∨ k = 4 ∨ k = 5 ∨ k = 7
    · simp [levelR, levelN, k0]
    · by_cases k3 : k = 3 <;> by_cases k6 : k = 6 <;> simp [levelR, levelN, k0, k10, k3, k6]
set_option maxHeartbeats 4000000 in
theorem rlevel_any (k n a : Int) (s : ByteArray) (A : Option Addr) (m c : Nat) (w : World) : Calls Tryz.prog 63 #[.agg #[.int .i64 k, .string s, .int .i64 n, .int .i64 a, .slice A m c]] w fun e w' => e = .returned (.int .i64 (levelR k s.data.toList m)) ∧ Below w.heap.size w w' := by
  have hb : Below w.heap.size w (w.alloc (.cells #[.int .i64 k, .string s, .int .i64 n, .int .i64 a, .slice A m c] 24)) := (Below.refl _ w).alloc (Nat.le_refl _) _
  have hsl : s.toList = s.data.toList := by
    obtain ⟨d⟩ := s
    obtain ⟨l⟩ := d
    exact ByteArray.toList_mk l
  by_cases k2 : k = 2
  · subst k2
    go_enter Tryz.func63, Tryz.ntmps63
    go_wp2_with fail
    go_ret
    exact ⟨ret_int (by simp [levelR]), hb⟩
  · have j2 : (k == 2) = false := by simpa using k2
    by_cases k4 : k = 4
    · subst k4
      go_enter Tryz.func63, Tryz.ntmps63
      go_wp2_with fail
      go_ret
      exact ⟨ret_int (by simp [levelR]), hb⟩
    · have j4 : (k == 4) = false := by simpa using k4
      by_cases k5 : k = 5
      · subst k5
        go_enter Tryz.func63, Tryz.ntmps63
        go_wp2_with fail
        go_ret
        exact ⟨ret_int (by simp [levelR]), hb⟩
      · have j5 : (k == 5) = false := by simpa using k5
        by_cases k7 : k = 7
        · subst k7
          go_enter Tryz.func63, Tryz.ntmps63
          go_wp2_with fail
          go_ret
          exact ⟨ret_int (by simp [levelR]), hb⟩
        · have j7 : (k == 7) = false := by simpa using k7
          by_cases k3 : k = 3
          · subst k3
            go_enter Tryz.func63, Tryz.ntmps63
            go_wp2_with fail
            go_ret
            exact ⟨ret_int (by simp [levelR]), hb⟩
          · have j3 : (k == 3) = false := by simpa using k3
            by_cases k6 : k = 6
            · subst k6
              by_cases hm : 0 < m
              · have hm' : (0 : Int) < (m : Int) := by omega
                go_enter Tryz.func63, Tryz.ntmps63
                go_wp2_with fail
                go_ret
                exact ⟨ret_int (by simp [levelR, hm]), hb⟩
              · have hm' : ¬ (0 : Int) < (m : Int) := by omega
                go_enter Tryz.func63, Tryz.ntmps63
                go_wp2_with fail
                go_ret
                exact ⟨ret_int (by simp [levelR, hm]), hb⟩
            · have j6 : (k == 6) = false := by simpa using k6
              by_cases k10 : k = 10
              · subst k10
                go_enter Tryz.func63, Tryz.ntmps63
                go_wp2_with fail
                all_goals go_ret
                all_goals refine ⟨ret_int ?_, hb⟩
                all_goals clear hb hsl j2 j4 j5 j7 j3 j6 k2 k4 k5 k7 k3 k6
                all_goals simp_all [levelR]
              · have j10 : (k == 10) = false := by simpa using k10
                go_enter Tryz.func63, Tryz.ntmps63
                go_wp2_with fail
                go_ret
                exact ⟨ret_int (by simp [levelR, k2, k4, k5, k7, k3, k6, k10]), hb⟩
end Lx
end Go.Proofs.YteabbkhlgnoliaaGreatDoor
namespace Go.Proofs.YteabbkhlgnoliaaGreatDoor
open Go.RowKit
namespace Lx
set_option maxRecDepth 100000
/-- What the reference's text of a tree answers, in all worlds that keep what lies. -/
def RTx (w : World) (t : Tr) (A : Option Addr) (c : Nat) : Prop :=
  ∀ W, Below w.heap.size w W → Calls Tryz.prog 34 #[tv t A c] W fun e w' => e = .returned (.string ⟨(showT t).toArray⟩) ∧ Below W.heap.size W w'
set_option maxHeartbeats 4000000 in
theorem rat_any (lv : Int) (k n a : Int) (s : ByteArray) (l : List Tr) (A : Option Addr) (c : Nat) (w W : World) (hlv : levelR k s.data.toList l.length = levelN k s.data.toList l.length) (hx : RTx w (.node k s n a l) A c) (hlen : (showT (.node k s n a l)).length ≤ 1000000) (hW : Below w.heap.size w W) :
    Calls Tryz.prog 60 #[tv (.node k s n a l) A c, .int .i64 lv] W fun e w' => e = .returned (.string ⟨(parS lv (levelT (.node k s n a l), showT (.node k s n a l))).toArray⟩) ∧ Below W.heap.size W w' := by
  have HX := Lib.hid (fun W1 (h : Below W.heap.size W W1) => hx W1 (hW.trans (h.mono hW.size)))
  have HL := Lib.hid (fun W1 => rlevel_any k n a s A l.length (capF l.length c) W1)
  obtain ⟨T, hT⟩ : ∃ T, T = showT (.node k s n a l) := ⟨_, rfl⟩
  rw [← hT] at hlen
  simp only [tv, Tr.kind, Tr.name, Tr.n, Tr.place, Tr.parts]
  go_enter Tryz.func60, Tryz.ntmps60
  go_wp2_with fail
  refine (HX.out _ ((Below.refl _ W).alloc (Nat.le_refl _) _)).mono ?_
  rintro e w1 ⟨rfl, hb1⟩
  obtain ⟨S, hS⟩ : ∃ S, S = ByteArray.mk T.toArray := ⟨_, rfl⟩
  have hS2 : S.data.toList = T := by rw [hS]
  rw [← hT, ← hS]
  have hz : S.size ≤ 1000000 := by
    rw [hS]
    show T.toArray.size ≤ 1000000
    rw [List.size_toArray]
    exact hlen
  clear hS
  have hz1 : ¬ 9223372036854775807 < 1 + S.size := by omega
  have hz2 : ¬ 9223372036854775807 < 1 + S.size + 1 := by omega
  have hs1 : W.heap.size < w1.heap.size := by
    have := hb1.size
    simp at this
    omega
  have hcs : ∀ i, w1.cell? ⟨W.heap.size, i, none⟩ = (#[Value.int .i64 k, .string s, .int .i64 n, .int .i64 a, .slice A l.length (capF l.length c)])[i]? := fun i => by
    rw [hb1.cell (by simp)]
    exact World.cell?_alloc_new _ _ _ _
  have hc0 := hcs 0
  have hc1 := hcs 1
  have hc2 := hcs 2
  have hc3 := hcs 3
  have hc4 := hcs 4
  clear hcs
  simp only [List.getElem?_toArray, List.getElem?_cons_zero, List.getElem?_cons_succ] at hc0 hc1 hc2 hc3 hc4
  go_wp2_with fail
  refine (HL.out _).mono ?_
  rintro e w2 ⟨rfl, hb2⟩
  rw [hlv]
  have hbb : Below W.heap.size W w2 := ((((Below.refl _ W).alloc (Nat.le_refl _) _).trans (hb1.mono (by simp))).trans (hb2.mono (Nat.le_of_lt hs1)))
  have hpar : (parS lv (levelT (.node k s n a l), T)) = if lv ≤ levelN k s.data.toList l.length then T else 40 :: T ++ [41] := rfl
  obtain ⟨L, hL⟩ : ∃ L, L = levelN k s.data.toList l.length := ⟨_, rfl⟩
  rw [← hL]
  rw [← hL] at hpar
  clear hL hlv HX HL hx hW hb1 hb2
  by_cases h : L < lv
  · have h' : ¬ lv ≤ L := by omega
    rw [if_neg h'] at hpar
    go_wp2_with fail
    go_ret
    refine ⟨?_, hbb⟩
    rw [← hT, hpar]
    show Ending.returned (Value.string (_ ++ S ++ _)) = _
    congr 2
    apply ByteArray.ext
    apply Array.toList_inj.1
    simp [hS2]
  · have h' : lv ≤ L := by omega
    rw [if_pos h'] at hpar
    go_wp2_with fail
    go_ret
    refine ⟨?_, hbb⟩
    rw [← hT, hpar]
    show Ending.returned (Value.string S) = _
    congr 2
    apply ByteArray.ext
    apply Array.toList_inj.1
    simp [hS2]
end Lx
end Go.Proofs.YteabbkhlgnoliaaGreatDoor
namespace Go.Proofs.YteabbkhlgnoliaaGreatDoor
open Go.RowKit
namespace Lx
set_option maxRecDepth 100000
theorem nDigits_le : ∀ (k u : Nat), u < 10 ^ (k + 1) → Lib.nDigits u ≤ k + 1
  | 0, u, h => by rw [Lib.nDigits_small (by simpa using h)]; exact Nat.le_refl _
  | k + 1, u, h => by
    by_cases hu : u < 10
    · rw [Lib.nDigits_small hu]; omega
    · rw [Lib.nDigits_big hu]
      have : u / 10 < 10 ^ (k + 1) := by
        rw [Nat.pow_succ] at h
        omega
      have := nDigits_le k (u / 10) this
      omega
theorem dig_small {n : Int} (h0 : 0 ≤ n) (h1 : n < 10) : Lib.itoa n = [UInt8.ofNat (48 + n % 10).toNat] := by
  have : ¬ n < 0 := by omega
  rw [Lib.itoa, if_neg this, Lib.decDigits_one (by omega)]
  congr 2
  omega
theorem dig_big {n : Int} (_ : 0 ≤ n) (h1 : ¬ n < 10) : Lib.itoa n = Lib.itoa (n / 10) ++ [UInt8.ofNat (48 + n % 10).toNat] := by
  have h2 : ¬ n < 0 := by omega
  have h3 : ¬ n / 10 < 0 := by omega
  rw [Lib.itoa, if_neg h2, Lib.itoa, if_neg h3, Lib.decDigits, dif_neg (by omega)]
  have e1 : n.toNat / 10 = (n / 10).toNat := by omega
  have e2 : 48 + n.toNat % 10 = (48 + n % 10).toNat := by omega
  rw [e1, e2]
set_option maxHeartbeats 4000000 in
theorem rdig_any : ∀ (k : Nat) (n : Int) (_ : 0 ≤ n) (_ : n ≤ 9223372036854775807) (_ : n.toNat < k) (w : World), Calls Tryz.prog 62 #[.int .i64 n] w fun e w' => e = .returned (.string ⟨(Lib.itoa n).toArray⟩) ∧ Below w.heap.size w w'
  | 0, n, h0, _, hk, w => by omega
  | k + 1, n, h0, hm, hk, w => by
    have hb : Below w.heap.size w (w.alloc (.cells #[.int .u8 (48 + n % 10)] 5)) := (Below.refl _ w).alloc (Nat.le_refl _) _
    have HC : (convert 51 9 (.slice (some ⟨w.heap.size, 0, none⟩) 1 1)).run Tryz.prog (w.alloc (.cells #[.int .u8 (48 + n % 10)] 5)) = .ok (.string ⟨[UInt8.ofNat (48 + n % 10).toNat].toArray⟩) (w.alloc (.cells #[.int .u8 (48 + n % 10)] 5)) := by
      refine run_convert_bytes_back _ _ _ 5 ⟨w.heap.size, 0, none⟩ 1 [UInt8.ofNat (48 + n % 10).toNat] (by kernel_rfl) (by kernel_rfl) (by kernel_rfl) ?_
      intro j hj
      have : j = 0 := by simp at hj; omega
      subst this
      have e : ((UInt8.ofNat (48 + n % 10).toNat).toNat : Int) = 48 + n % 10 := by
        rw [UInt8.toNat_ofNat']
        omega
      simpa [Addr.add] using e.symm
    by_cases h1 : n < 10
    · rw [dig_small h0 h1]
      have j1 : ¬ 10 ≤ n := by omega
      obtain ⟨d, hd⟩ : ∃ d : List UInt8, d = [UInt8.ofNat (48 + n % 10).toNat] := ⟨_, rfl⟩
      rw [← hd] at HC ⊢
      go_enter Tryz.func62, Tryz.ntmps62
      go_wp2_with fail
      go_ret
      exact ⟨rfl, hb⟩
    · rw [dig_big h0 h1]
      have j1 : 10 ≤ n := by omega
      have HR := fun (W : World) => rdig_any k (n / 10) (by omega) (by omega) (by omega) W
      have HR := Lib.hid HR
      have hlen : (Lib.itoa (n / 10)).length ≤ 20 := by
        have : ¬ n / 10 < 0 := by omega
        rw [Lib.itoa, if_neg this, Lib.decDigits_length]
        exact nDigits_le 19 _ (by omega)
      go_enter Tryz.func62, Tryz.ntmps62
      go_wp2_with fail
      refine (HR.out _).mono ?_
      rintro e w' ⟨rfl, hb2⟩
      have hz : (ByteArray.mk (Lib.itoa (n / 10)).toArray).size ≤ 20 := by
        show (Lib.itoa (n / 10)).toArray.size ≤ 20
        rw [List.size_toArray]
        exact hlen
      obtain ⟨S, hS⟩ : ∃ S, S = ByteArray.mk (Lib.itoa (n / 10)).toArray := ⟨_, rfl⟩
      have hS2 : S.data.toList = Lib.itoa (n / 10) := by rw [hS]
      rw [← hS] at hz ⊢
      clear hS
      have hz1 : ¬ 9223372036854775807 < S.size + 1 := by omega
      have hz2 : ¬ 9223372036854775807 < 1 + S.size := by omega
      go_wp2_with fail
      go_ret
      refine ⟨?_, hb.trans (hb2.mono (by simp))⟩
      show Ending.returned (Value.string (S ++ _)) = _
      congr 2
      apply ByteArray.ext
      apply Array.toList_inj.1
      simp [hS2]
end Lx
end Go.Proofs.YteabbkhlgnoliaaGreatDoor
namespace Go.Proofs.YteabbkhlgnoliaaGreatDoor
open Go.RowKit
namespace Lx
set_option maxRecDepth 100000
set_option maxHeartbeats 4000000 in
theorem rtx_num (n a : Int) (s : ByteArray) (l : List Tr) (A : Option Addr) (c : Nat) (w : World) (h0 : 0 ≤ n) (h1 : n ≤ 9223372036854775807) : RTx w (.node 9 s n a l) A c := by
  intro W hW
  have HD := Lib.hid (fun W1 => rdig_any (n.toNat + 1) n h0 h1 (Nat.lt_succ_self _) W1)
  have hsh : showT (.node 9 s n a l) = Lib.itoa n := by simp [showT, wordsN, joinS]
  rw [hsh]
  simp only [tv, Tr.kind, Tr.name, Tr.n, Tr.place, Tr.parts]
  go_enter Tryz.func34, Tryz.ntmps34
  go_wp2_with fail
  refine (HD.out _).mono ?_
  rintro e w1 ⟨rfl, hb1⟩
  go_wp2_with fail
  go_ret
  exact ⟨rfl, ((Below.refl _ W).alloc (Nat.le_refl _) _).trans (hb1.mono (by simp))⟩
theorem show_lam (n a : Int) (s : ByteArray) (p : Tr) : showT (.node 2 s n a [p]) = 92 :: s.data.toList ++ [46, 32] ++ showT p := by
  have h : (0 : Int) ≤ levelT p := by
    cases p
    simp only [levelT, levelN, levelS]
    repeat' split
    all_goals omega
  simp [showT, showL, wordsN, joinS, atD, parS, h]
set_option maxHeartbeats 4000000 in
theorem rtx_lam (n a : Int) (s : ByteArray) (p : Tr) (A : Option Addr) (c : Nat) (w : World) (hI : TIn w Any (.node 2 s n a [p]) A) (hlen : (showT (.node 2 s n a [p])).length ≤ 1000000)
    (hp : ∀ A' c', TIn w Any p A' → RTx w p A' c') : RTx w (.node 2 s n a [p]) A c := by
  intro W hW
  have hI2 := TIn.below _ hI hW (Nat.le_refl _)
  have hI3 := hI
  rw [show_lam] at hlen ⊢
  obtain ⟨hs1, hl1, ⟨g, o, A', c', ⟨rfl, _⟩, q0, q1, q2, q3, q4, q5⟩, _⟩ := hI2
  obtain ⟨_, _, ⟨g0, o0, A0, c0, ⟨e0, _⟩, _, _, _, _, q40, q50⟩, _⟩ := hI3
  simp only [Option.some.injEq, Addr.mk.injEq, and_true] at e0
  obtain ⟨rfl, rfl⟩ := e0
  have hg0 : g < w.heap.size := cell_lt q40
  have q44 := hW.cell (p := ⟨g, o + 0 * 5 + 4, none⟩) hg0
  rw [q40, q4] at q44
  simp only [Option.some.injEq, Value.slice.injEq] at q44
  obtain ⟨rfl, _, hcc⟩ := q44
  clear q40
  have HX := fun W1 (h : Below W.heap.size W W1) => hp A' c' q50 W1 (hW.trans (h.mono hW.size))
  simp only [tv] at HX
  simp only [tv, Tr.kind, Tr.name, Tr.n, Tr.place, Tr.parts, List.length_cons, List.length_nil]
  simp only [Nat.zero_mul, Nat.add_zero] at q0 q1 q2 q3 q4
  have hgW : g < W.heap.size := cell_lt q0
  obtain ⟨k1, hk1⟩ : ∃ x, x = p.kind := ⟨_, rfl⟩
  obtain ⟨s1, hs1'⟩ : ∃ x, x = p.name := ⟨_, rfl⟩
  obtain ⟨n1, hn1⟩ : ∃ x, x = p.n := ⟨_, rfl⟩
  obtain ⟨a1, ha1⟩ : ∃ x, x = p.place := ⟨_, rfl⟩
  obtain ⟨m1, hm1⟩ : ∃ x, x = p.parts.length := ⟨_, rfl⟩
  rw [← hk1] at q0 HX
  rw [← hs1'] at q1 HX
  rw [← hn1] at q2 HX
  rw [← ha1] at q3 HX
  rw [← hm1] at q4 HX
  obtain ⟨T, hT⟩ : ∃ T, T = showT p := ⟨_, rfl⟩
  rw [← hT] at hlen HX ⊢
  clear hk1 hs1' hn1 ha1 hm1 hT hp hI q5 q50 hcc hl1
  obtain ⟨O, hO⟩ : ∃ O, O = Obj.cells #[.int .i64 2, .string s, .int .i64 n, .int .i64 a, .slice (some ⟨g, o, none⟩) 1 (capF 1 c)] 24 := ⟨_, rfl⟩
  have hL : Lies (W.alloc O) W.heap.size 24 #[.int .i64 2, .string s, .int .i64 n, .int .i64 a, .slice (some ⟨g, o, none⟩) 1 (capF 1 c)] := by
    rw [hO]
    exact Lies.new _ _ _
  have hz : Below W.heap.size W (W.alloc O) := (Below.refl _ W).alloc (Nat.le_refl _) _
  have hls : W.heap.size < (W.alloc O).heap.size := hL.lt
  have hS : ∀ V, Below (W.alloc O).heap.size (W.alloc O) V → V.cell? ⟨W.heap.size, 1, none⟩ = some (.string s) ∧ V.cell? ⟨W.heap.size, 4, none⟩ = some (.slice (some ⟨g, o, none⟩) 1 (capF 1 c)) ∧ V.cell? ⟨g, o, none⟩ = some (.int .i64 k1) ∧ V.cell? ⟨g, o + 1, none⟩ = some (.string s1) ∧ V.cell? ⟨g, o + 2, none⟩ = some (.int .i64 n1) ∧ V.cell? ⟨g, o + 3, none⟩ = some (.int .i64 a1) ∧ V.cell? ⟨g, o + 4, none⟩ = some (.slice A' m1 (capF m1 c')) := by
    intro V h
    have h1 := hL.below h hls
    have h2 := hz.trans (h.mono (Nat.le_of_lt hls))
    exact ⟨h1.cell 1, h1.cell 4, (h2.cell hgW).trans q0, (h2.cell hgW).trans q1, (h2.cell hgW).trans q2, (h2.cell hgW).trans q3, (h2.cell hgW).trans q4⟩
  have HS := Lib.hid hS
  have hz1 : s.size + T.length ≤ 1000000 := by
    simp at hlen
    omega
  clear hS hL hlen
  go_enter Tryz.func34, Tryz.ntmps34
  go_upto_region 3 with fail
  rw [← hO]
  obtain ⟨W5, hW5⟩ : ∃ X, X = W.alloc O := ⟨_, rfl⟩
  rw [← hW5] at hz hls HS ⊢
  have hd0 : Below W5.heap.size W5 W5.drew := (Below.refl _ W5).drew
  obtain ⟨S, hS⟩ : ∃ S, S = ByteArray.mk T.toArray := ⟨_, rfl⟩
  have hS2 : S.data.toList = T := by rw [hS]
  have hS3 : S.size = T.length := by
    rw [hS]
    show T.toArray.size = _
    simp
  rw [← hS] at HX
  have HC := Lib.hid (fun X (h : Below W5.heap.size W5 X) => (HX X (hz.trans (h.mono (Nat.le_of_lt hls)))).mono fun e w' q => (⟨q.1, h.trans (q.2.mono h.size)⟩ : _ ∧ Below W5.heap.size W5 w'))
  have hS0 := HS.out _ (Below.refl _ W5)
  have HZ := Lib.hid hz
  have HLS := Lib.hid hls
  have hb1 : ¬ 9223372036854775807 < 1 + s.size := by omega
  have hb2 : ¬ 9223372036854775807 < 1 + s.size + 2 := by omega
  have hb3 : ¬ 9223372036854775807 < 1 + s.size + 2 + S.size := by omega
  clear hz hls hW5 hO HX hS q0 q1 q2 q3 q4 hW hgW hz1 hS3
  refine wp_region_held_drew (S := (fun V' : World => (V'.cell? ⟨W.heap.size, 1, none⟩ = some (.string s) ∧ V'.cell? ⟨W.heap.size, 4, none⟩ = some (.slice (some ⟨g, o, none⟩) 1 (capF 1 c)) ∧ V'.cell? ⟨g, o, none⟩ = some (.int .i64 k1) ∧ V'.cell? ⟨g, o + 1, none⟩ = some (.string s1) ∧ V'.cell? ⟨g, o + 2, none⟩ = some (.int .i64 n1) ∧ V'.cell? ⟨g, o + 3, none⟩ = some (.int .i64 a1) ∧ V'.cell? ⟨g, o + 4, none⟩ = some (.slice A' m1 (capF m1 c'))))) rfl hS0 (fun hSs => ?_)
  change wpAnyH _ _ _ _ _ 11 (Array.replicate 11 false) _ _
  refine wpAnyH_take (i := 0) (oi := ⟨some 10, _, _, _, _, _⟩) (v := .pointer (some ⟨W.heap.size, 1, none⟩)) rfl (by kernel_rfl) (by kernel_rfl) (by kernel_rfl) (fun _ _ _ h => h) (.inl ⟨by kernel_rfl, fun W hW => by first | (obtain ⟨z0, z1, z2, z3, z4, z5, z6⟩ := hW; go_simp; done) | (obtain ⟨z0, z1, z2, z3, z4, z5, z6⟩ := hW; go_simp; omega) | (obtain ⟨z0, z1, z2, z3, z4, z5, z6⟩ := hW; go_simp; simp [*]; done)⟩) hSs ?_
  try simp only [Act.put, List.setIfInBounds_toArray, List.set_cons_zero, List.set_cons_succ]
  refine wpAnyH_take (i := 1) (oi := ⟨some 11, _, _, _, _, _⟩) (v := .string s) rfl (by kernel_rfl) (by kernel_rfl) (by kernel_rfl) (fun _ _ _ h => h) (.inl ⟨by kernel_rfl, fun W hW => by first | (obtain ⟨z0, z1, z2, z3, z4, z5, z6⟩ := hW; go_simp; done) | (obtain ⟨z0, z1, z2, z3, z4, z5, z6⟩ := hW; go_simp; omega) | (obtain ⟨z0, z1, z2, z3, z4, z5, z6⟩ := hW; go_simp; simp [*]; done)⟩) hSs ?_
  try simp only [Act.put, List.setIfInBounds_toArray, List.set_cons_zero, List.set_cons_succ]
  refine wpAnyH_take (i := 2) (oi := ⟨some 12, _, _, _, _, _⟩) (v := .string ((⟨#[92]⟩ : ByteArray) ++ s)) rfl (by kernel_rfl) (by kernel_rfl) (by kernel_rfl) (fun _ _ _ h => h) (.inl ⟨by kernel_rfl, fun W hW => by first | (obtain ⟨z0, z1, z2, z3, z4, z5, z6⟩ := hW; go_simp; done) | (obtain ⟨z0, z1, z2, z3, z4, z5, z6⟩ := hW; go_simp; omega) | (obtain ⟨z0, z1, z2, z3, z4, z5, z6⟩ := hW; go_simp; simp [*]; done)⟩) hSs ?_
  try simp only [Act.put, List.setIfInBounds_toArray, List.set_cons_zero, List.set_cons_succ]
  refine wpAnyH_take (i := 3) (oi := ⟨some 13, _, _, _, _, _⟩) (v := .string (((⟨#[92]⟩ : ByteArray) ++ s) ++ (⟨#[46, 32]⟩ : ByteArray))) rfl (by kernel_rfl) (by kernel_rfl) (by kernel_rfl) (fun _ _ _ h => h) (.inl ⟨by kernel_rfl, fun W hW => by first | (obtain ⟨z0, z1, z2, z3, z4, z5, z6⟩ := hW; go_simp; done) | (obtain ⟨z0, z1, z2, z3, z4, z5, z6⟩ := hW; go_simp; omega) | (obtain ⟨z0, z1, z2, z3, z4, z5, z6⟩ := hW; go_simp; simp [*]; done)⟩) hSs ?_
  try simp only [Act.put, List.setIfInBounds_toArray, List.set_cons_zero, List.set_cons_succ]
  refine wpAnyH_take (i := 4) (oi := ⟨some 14, _, _, _, _, _⟩) (v := .pointer (some ⟨W.heap.size, 4, none⟩)) rfl (by kernel_rfl) (by kernel_rfl) (by kernel_rfl) (fun _ _ _ h => h) (.inl ⟨by kernel_rfl, fun W hW => by first | (obtain ⟨z0, z1, z2, z3, z4, z5, z6⟩ := hW; go_simp; done) | (obtain ⟨z0, z1, z2, z3, z4, z5, z6⟩ := hW; go_simp; omega) | (obtain ⟨z0, z1, z2, z3, z4, z5, z6⟩ := hW; go_simp; simp [*]; done)⟩) hSs ?_
  try simp only [Act.put, List.setIfInBounds_toArray, List.set_cons_zero, List.set_cons_succ]
  refine wpAnyH_take (i := 5) (oi := ⟨some 15, _, _, _, _, _⟩) (v := .slice (some ⟨g, o, none⟩) 1 (capF 1 c)) rfl (by kernel_rfl) (by kernel_rfl) (by kernel_rfl) (fun _ _ _ h => h) (.inl ⟨by kernel_rfl, fun W hW => by first | (obtain ⟨z0, z1, z2, z3, z4, z5, z6⟩ := hW; go_simp; done) | (obtain ⟨z0, z1, z2, z3, z4, z5, z6⟩ := hW; go_simp; omega) | (obtain ⟨z0, z1, z2, z3, z4, z5, z6⟩ := hW; go_simp; simp [*]; done)⟩) hSs ?_
  try simp only [Act.put, List.setIfInBounds_toArray, List.set_cons_zero, List.set_cons_succ]
  refine wpAnyH_take (i := 6) (oi := ⟨some 16, _, _, _, _, _⟩) (v := .pointer (some ⟨g, o, none⟩)) rfl (by kernel_rfl) (by kernel_rfl) (by kernel_rfl) (fun _ _ _ h => h) (.inl ⟨by kernel_rfl, fun W hW => by first | (obtain ⟨z0, z1, z2, z3, z4, z5, z6⟩ := hW; go_simp; done) | (obtain ⟨z0, z1, z2, z3, z4, z5, z6⟩ := hW; go_simp; omega) | (obtain ⟨z0, z1, z2, z3, z4, z5, z6⟩ := hW; go_simp; simp [*]; done)⟩) hSs ?_
  try simp only [Act.put, List.setIfInBounds_toArray, List.set_cons_zero, List.set_cons_succ]
  refine wpAnyH_take (i := 7) (oi := ⟨some 17, _, _, _, _, _⟩) (v := .agg #[.int .i64 k1, .string s1, .int .i64 n1, .int .i64 a1, .slice A' m1 (capF m1 c')]) rfl (by kernel_rfl) (by kernel_rfl) (by kernel_rfl) (fun _ _ _ h => h) (.inl ⟨by kernel_rfl, fun W hW => by first | (obtain ⟨z0, z1, z2, z3, z4, z5, z6⟩ := hW; go_simp; done) | (obtain ⟨z0, z1, z2, z3, z4, z5, z6⟩ := hW; go_simp; omega) | (obtain ⟨z0, z1, z2, z3, z4, z5, z6⟩ := hW; go_simp; simp [*]; done)⟩) hSs ?_
  try simp only [Act.put, List.setIfInBounds_toArray, List.set_cons_zero, List.set_cons_succ]
  refine wpAnyH_ready (rs := [8]) (by kernel_rfl) (by simp) (AllReadyH.cons rfl (fun K hK => ?_) AllReadyH.nil)
  go_simp
  refine (HC.out _ hd0).mono ?_
  rintro e u1 ⟨rfl, hd1⟩
  refine hK.out _ _ (HS.out _ hd1) (fun hS1 => ?_)
  clear hK K
  try simp only [Act.put, List.setIfInBounds_toArray, List.set_cons_zero, List.set_cons_succ]
  refine wpAnyH_take (i := 9) (oi := ⟨some 19, _, _, _, _, _⟩) (v := .string ((((⟨#[92]⟩ : ByteArray) ++ s) ++ (⟨#[46, 32]⟩ : ByteArray)) ++ S)) rfl (by kernel_rfl) (by kernel_rfl) (by kernel_rfl) (fun _ _ _ h => h) (.inl ⟨by kernel_rfl, fun W hW => by first | (obtain ⟨z0, z1, z2, z3, z4, z5, z6⟩ := hW; go_simp; done) | (obtain ⟨z0, z1, z2, z3, z4, z5, z6⟩ := hW; go_simp; omega) | (obtain ⟨z0, z1, z2, z3, z4, z5, z6⟩ := hW; go_simp; simp [*]; done)⟩) hS1 ?_
  try simp only [Act.put, List.setIfInBounds_toArray, List.set_cons_zero, List.set_cons_succ]
  refine wpAnyH_take (i := 10) (oi := ⟨some 2, _, _, _, _, _⟩) (v := .string ((((⟨#[92]⟩ : ByteArray) ++ s) ++ (⟨#[46, 32]⟩ : ByteArray)) ++ S)) rfl (by kernel_rfl) (by kernel_rfl) (by kernel_rfl) (fun _ _ _ h => h) (.inl ⟨by kernel_rfl, fun W hW => by kernel_rfl⟩) hS1 ?_
  try simp only [Act.put, List.setIfInBounds_toArray, List.set_cons_zero, List.set_cons_succ]
  refine wpAnyH_done (by kernel_rfl) ?_ _
  go_wp2_with fail
  go_ret
  refine ⟨?_, HZ.out.trans (hd1.mono (Nat.le_of_lt HLS.out))⟩
  show Ending.returned (Value.string (_ ++ S)) = _
  congr 2
  apply ByteArray.ext
  apply Array.toList_inj.1
  simp [hS2]
end Lx
end Go.Proofs.YteabbkhlgnoliaaGreatDoor
namespace Go.Proofs.YteabbkhlgnoliaaGreatDoor
open Go.RowKit
namespace Lx
set_option maxRecDepth 100000
theorem below_step {a b c : World} (h : Below a.heap.size a b) (k : Below b.heap.size b c) : Below a.heap.size a c := h.trans (k.mono h.size)
/-- What a text that is asked of a value answers, from a world on. -/
def TxV (W : World) (v : Value) (T : List UInt8) : Prop := ∀ W1, Below W.heap.size W W1 → Calls Tryz.prog 34 #[v] W1 fun e w' => e = .returned (.string ⟨T.toArray⟩) ∧ Below W1.heap.size W1 w'
/-- The part i lies there, and its text is told. -/
theorem rpart {t : Tr} {w W : World} {A : Option Addr} (hI : TIn w Any t A) (i : Nat) (hi : i < t.parts.length) (hW : Below w.heap.size w W) (hp : ∀ p ∈ t.parts, ∀ A' c', TIn w Any p A' → RTx w p A' c') :
    ∃ g o k1 s1 n1 a1 A1 m1 c1, A = some ⟨g, o, none⟩ ∧ g < W.heap.size ∧ W.cell? ⟨g, o + i * 5, none⟩ = some (.int .i64 k1) ∧ W.cell? ⟨g, o + i * 5 + 1, none⟩ = some (.string s1) ∧ W.cell? ⟨g, o + i * 5 + 2, none⟩ = some (.int .i64 n1) ∧
      W.cell? ⟨g, o + i * 5 + 3, none⟩ = some (.int .i64 a1) ∧ W.cell? ⟨g, o + i * 5 + 4, none⟩ = some (.slice A1 m1 c1) ∧ k1 = (t.parts[i]'hi).kind ∧ s1 = (t.parts[i]'hi).name ∧ m1 = (t.parts[i]'hi).parts.length ∧
      TxV W (.agg #[.int .i64 k1, .string s1, .int .i64 n1, .int .i64 a1, .slice A1 m1 c1]) (showT (t.parts[i]'hi)) := by
  obtain ⟨g, o, A', c', ⟨rfl, _⟩, q0, q1, q2, q3, q4, q5⟩ := TIn.part hI i hi
  have hg : g < w.heap.size := cell_lt q0
  refine ⟨g, o, _, _, _, _, _, _, _, rfl, Nat.lt_of_lt_of_le hg hW.size, (hW.cell hg).trans q0, (hW.cell hg).trans q1, (hW.cell hg).trans q2, (hW.cell hg).trans q3, (hW.cell hg).trans q4, rfl, rfl, rfl, ?_⟩
  intro W1 h
  have := hp _ (List.getElem_mem hi) A' c' q5 W1 (below_step hW h)
  simpa only [tv] using this
theorem level_nn (p : Tr) : (0 : Int) ≤ levelT p := by
  cases p
  simp only [levelT, levelN, levelS]
  repeat' split
  all_goals omega
theorem show_let (k : Int) (hk : k = 4 ∨ k = 5) (n a : Int) (s : ByteArray) (p q : Tr) : showT (.node k s n a [p, q]) = (if k = 4 then [108, 101, 116, 32] else [108, 101, 116, 114, 101, 99, 32]) ++ s.data.toList ++ [32, 61, 32] ++ showT p ++ [32, 105, 110, 32] ++ showT q := by
  rcases hk with rfl | rfl <;> simp [showT, showL, wordsN, joinS, atD, parS, level_nn]
theorem str_of (T : List UInt8) : ∃ S : ByteArray, S.data.toList = T ∧ S.size = T.length ∧ ByteArray.mk T.toArray = S := ⟨_, by simp, by show T.toArray.size = _; simp, rfl⟩
set_option maxHeartbeats 4000000 in
theorem rtx_let (n a : Int) (s : ByteArray) (p q : Tr) (A : Option Addr) (c : Nat) (w : World) (hI : TIn w Any (.node 4 s n a [p, q]) A) (hlen : (showT (.node 4 s n a [p, q])).length ≤ 1000000)
    (hp : ∀ u ∈ [p, q], ∀ A' c', TIn w Any u A' → RTx w u A' c') : RTx w (.node 4 s n a [p, q]) A c := by
  intro W hW
  rw [show_let 4 (by decide)] at hlen ⊢
  obtain ⟨g, o, k1, s1, n1, a1, A1, m1, c1, rfl, hgW, q0, q1, q2, q3, q4, -, -, -, HX⟩ := rpart hI 0 (by simp [Tr.parts]) hW hp
  obtain ⟨g2, o2, k2, s2, n2, a2, A2, m2, c2, e2, -, r0, r1, r2, r3, r4, -, -, -, HY⟩ := rpart hI 1 (by simp [Tr.parts]) hW hp
  simp only [Option.some.injEq, Addr.mk.injEq, and_true] at e2
  obtain ⟨rfl, rfl⟩ := e2
  simp only [Tr.parts, List.getElem_cons_zero, List.getElem_cons_succ] at HX HY
  simp only [tv, Tr.kind, Tr.name, Tr.n, Tr.place, Tr.parts, List.length_cons, List.length_nil]
  simp only [Nat.zero_mul, Nat.one_mul, Nat.add_zero, Nat.add_assoc, Nat.reduceAdd] at q0 q1 q2 q3 q4 r0 r1 r2 r3 r4 ⊢
  obtain ⟨T, hT⟩ : ∃ T, T = showT p := ⟨_, rfl⟩
  obtain ⟨U, hU⟩ : ∃ T, T = showT q := ⟨_, rfl⟩
  rw [← hT] at hlen HX ⊢
  rw [← hU] at hlen HY ⊢
  clear hT hU hp hI
  have hz1 : s.size + T.length + U.length ≤ 1000000 := by
    simp at hlen
    omega
  clear hlen
  obtain ⟨S, eS2, eS3, hS⟩ := str_of T
  obtain ⟨Z, eZ2, eZ3, hZ⟩ := str_of U
  simp only [TxV, hS] at HX
  simp only [TxV, hZ] at HY
  obtain ⟨O, hO⟩ : ∃ O, O = Obj.cells #[.int .i64 4, .string s, .int .i64 n, .int .i64 a, .slice (some ⟨g, o, none⟩) 2 (capF 2 c)] 24 := ⟨_, rfl⟩
  have hL : Lies (W.alloc O) W.heap.size 24 #[.int .i64 4, .string s, .int .i64 n, .int .i64 a, .slice (some ⟨g, o, none⟩) 2 (capF 2 c)] := by
    rw [hO]
    exact Lies.new _ _ _
  have hz : Below W.heap.size W (W.alloc O) := (Below.refl _ W).alloc (Nat.le_refl _) _
  have hls : W.heap.size < (W.alloc O).heap.size := hL.lt
  have hS : ∀ V', Below (W.alloc O).heap.size (W.alloc O) V' → (fun V' : World => (V'.cell? ⟨W.heap.size, 1, none⟩ = some (.string s) ∧ V'.cell? ⟨W.heap.size, 4, none⟩ = some (.slice (some ⟨g, o, none⟩) 2 (capF 2 c)) ∧ V'.cell? ⟨g, o, none⟩ = some (.int .i64 k1) ∧ V'.cell? ⟨g, o + 1, none⟩ = some (.string s1) ∧ V'.cell? ⟨g, o + 2, none⟩ = some (.int .i64 n1) ∧ V'.cell? ⟨g, o + 3, none⟩ = some (.int .i64 a1) ∧ V'.cell? ⟨g, o + 4, none⟩ = some (.slice A1 m1 c1) ∧ V'.cell? ⟨g, o + 5, none⟩ = some (.int .i64 k2) ∧ V'.cell? ⟨g, o + 6, none⟩ = some (.string s2) ∧ V'.cell? ⟨g, o + 7, none⟩ = some (.int .i64 n2) ∧ V'.cell? ⟨g, o + 8, none⟩ = some (.int .i64 a2) ∧ V'.cell? ⟨g, o + 9, none⟩ = some (.slice A2 m2 c2))) V' := by
    intro V h
    have h1 := hL.below h hls
    have h2 := hz.trans (h.mono (Nat.le_of_lt hls))
    exact ⟨h1.cell 1, h1.cell 4, (h2.cell hgW).trans q0, (h2.cell hgW).trans q1, (h2.cell hgW).trans q2, (h2.cell hgW).trans q3, (h2.cell hgW).trans q4, (h2.cell hgW).trans r0, (h2.cell hgW).trans r1, (h2.cell hgW).trans r2, (h2.cell hgW).trans r3, (h2.cell hgW).trans r4⟩
  have HS := Lib.hid hS
  clear hS hL
  go_enter Tryz.func34, Tryz.ntmps34
  go_upto_region 9 with fail
  rw [← hO]
  obtain ⟨W5, hW5⟩ : ∃ X, X = W.alloc O := ⟨_, rfl⟩
  rw [← hW5] at hz hls HS ⊢
  have hd0 : Below W5.heap.size W5 W5.drew := (Below.refl _ W5).drew
  have HC := Lib.hid (fun X (h : Below W5.heap.size W5 X) => (HX X (hz.trans (h.mono (Nat.le_of_lt hls)))).mono fun e w' q => (⟨q.1, below_step h q.2⟩ : _ ∧ Below W5.heap.size W5 w'))
  have HD := Lib.hid (fun X (h : Below W5.heap.size W5 X) => (HY X (hz.trans (h.mono (Nat.le_of_lt hls)))).mono fun e w' q => (⟨q.1, below_step h q.2⟩ : _ ∧ Below W5.heap.size W5 w'))
  have hS0 := HS.out _ (Below.refl _ W5)
  have HZ := Lib.hid hz
  have HLS := Lib.hid hls
  have hb1 : ¬ 9223372036854775807 < 4 + s.size := by omega
  have hb2 : ¬ 9223372036854775807 < 4 + s.size + 3 := by omega
  have hb3 : ¬ 9223372036854775807 < 4 + s.size + 3 + S.size := by omega
  have hb4 : ¬ 9223372036854775807 < 4 + s.size + 3 + S.size + 4 := by omega
  have hb5 : ¬ 9223372036854775807 < 4 + s.size + 3 + S.size + 4 + Z.size := by omega
  clear hz hls hW5 hO HX HY q0 q1 q2 q3 q4 r0 r1 r2 r3 r4 hS hZ hW hgW hz1 eS3 eZ3
  refine wp_region_held_drew (S := (fun V' : World => (V'.cell? ⟨W.heap.size, 1, none⟩ = some (.string s) ∧ V'.cell? ⟨W.heap.size, 4, none⟩ = some (.slice (some ⟨g, o, none⟩) 2 (capF 2 c)) ∧ V'.cell? ⟨g, o, none⟩ = some (.int .i64 k1) ∧ V'.cell? ⟨g, o + 1, none⟩ = some (.string s1) ∧ V'.cell? ⟨g, o + 2, none⟩ = some (.int .i64 n1) ∧ V'.cell? ⟨g, o + 3, none⟩ = some (.int .i64 a1) ∧ V'.cell? ⟨g, o + 4, none⟩ = some (.slice A1 m1 c1) ∧ V'.cell? ⟨g, o + 5, none⟩ = some (.int .i64 k2) ∧ V'.cell? ⟨g, o + 6, none⟩ = some (.string s2) ∧ V'.cell? ⟨g, o + 7, none⟩ = some (.int .i64 n2) ∧ V'.cell? ⟨g, o + 8, none⟩ = some (.int .i64 a2) ∧ V'.cell? ⟨g, o + 9, none⟩ = some (.slice A2 m2 c2)))) rfl hS0 (fun hSs => ?_)
  change wpAnyH _ _ _ _ _ 18 (Array.replicate 18 false) _ _
  refine wpAnyH_take (i := 0) (oi := ⟨some 55, _, _, _, _, _⟩) (v := .pointer (some ⟨W.heap.size, 1, none⟩)) rfl (by kernel_rfl) (by kernel_rfl) (by kernel_rfl) (fun _ _ _ h => h) (.inl ⟨by kernel_rfl, fun W hW => by first | (obtain ⟨z0, z1, z2, z3, z4, z5, z6, z7, z8, z9, z10, z11⟩ := hW; go_simp; done) | (obtain ⟨z0, z1, z2, z3, z4, z5, z6, z7, z8, z9, z10, z11⟩ := hW; go_simp; omega) | (obtain ⟨z0, z1, z2, z3, z4, z5, z6, z7, z8, z9, z10, z11⟩ := hW; go_simp; simp [*]; done)⟩) hSs ?_
  try simp only [Act.put, List.setIfInBounds_toArray, List.set_cons_zero, List.set_cons_succ]
  refine wpAnyH_take (i := 1) (oi := ⟨some 56, _, _, _, _, _⟩) (v := .string s) rfl (by kernel_rfl) (by kernel_rfl) (by kernel_rfl) (fun _ _ _ h => h) (.inl ⟨by kernel_rfl, fun W hW => by first | (obtain ⟨z0, z1, z2, z3, z4, z5, z6, z7, z8, z9, z10, z11⟩ := hW; go_simp; done) | (obtain ⟨z0, z1, z2, z3, z4, z5, z6, z7, z8, z9, z10, z11⟩ := hW; go_simp; omega) | (obtain ⟨z0, z1, z2, z3, z4, z5, z6, z7, z8, z9, z10, z11⟩ := hW; go_simp; simp [*]; done)⟩) hSs ?_
  try simp only [Act.put, List.setIfInBounds_toArray, List.set_cons_zero, List.set_cons_succ]
  refine wpAnyH_take (i := 2) (oi := ⟨some 57, _, _, _, _, _⟩) (v := .string ((⟨#[108, 101, 116, 32]⟩ : ByteArray) ++ s)) rfl (by kernel_rfl) (by kernel_rfl) (by kernel_rfl) (fun _ _ _ h => h) (.inl ⟨by kernel_rfl, fun W hW => by first | (obtain ⟨z0, z1, z2, z3, z4, z5, z6, z7, z8, z9, z10, z11⟩ := hW; go_simp; done) | (obtain ⟨z0, z1, z2, z3, z4, z5, z6, z7, z8, z9, z10, z11⟩ := hW; go_simp; omega) | (obtain ⟨z0, z1, z2, z3, z4, z5, z6, z7, z8, z9, z10, z11⟩ := hW; go_simp; simp [*]; done)⟩) hSs ?_
  try simp only [Act.put, List.setIfInBounds_toArray, List.set_cons_zero, List.set_cons_succ]
  refine wpAnyH_take (i := 3) (oi := ⟨some 58, _, _, _, _, _⟩) (v := .string (((⟨#[108, 101, 116, 32]⟩ : ByteArray) ++ s) ++ (⟨#[32, 61, 32]⟩ : ByteArray))) rfl (by kernel_rfl) (by kernel_rfl) (by kernel_rfl) (fun _ _ _ h => h) (.inl ⟨by kernel_rfl, fun W hW => by first | (obtain ⟨z0, z1, z2, z3, z4, z5, z6, z7, z8, z9, z10, z11⟩ := hW; go_simp; done) | (obtain ⟨z0, z1, z2, z3, z4, z5, z6, z7, z8, z9, z10, z11⟩ := hW; go_simp; omega) | (obtain ⟨z0, z1, z2, z3, z4, z5, z6, z7, z8, z9, z10, z11⟩ := hW; go_simp; simp [*]; done)⟩) hSs ?_
  try simp only [Act.put, List.setIfInBounds_toArray, List.set_cons_zero, List.set_cons_succ]
  refine wpAnyH_take (i := 4) (oi := ⟨some 59, _, _, _, _, _⟩) (v := .pointer (some ⟨W.heap.size, 4, none⟩)) rfl (by kernel_rfl) (by kernel_rfl) (by kernel_rfl) (fun _ _ _ h => h) (.inl ⟨by kernel_rfl, fun W hW => by first | (obtain ⟨z0, z1, z2, z3, z4, z5, z6, z7, z8, z9, z10, z11⟩ := hW; go_simp; done) | (obtain ⟨z0, z1, z2, z3, z4, z5, z6, z7, z8, z9, z10, z11⟩ := hW; go_simp; omega) | (obtain ⟨z0, z1, z2, z3, z4, z5, z6, z7, z8, z9, z10, z11⟩ := hW; go_simp; simp [*]; done)⟩) hSs ?_
  try simp only [Act.put, List.setIfInBounds_toArray, List.set_cons_zero, List.set_cons_succ]
  refine wpAnyH_take (i := 5) (oi := ⟨some 60, _, _, _, _, _⟩) (v := .slice (some ⟨g, o, none⟩) 2 (capF 2 c)) rfl (by kernel_rfl) (by kernel_rfl) (by kernel_rfl) (fun _ _ _ h => h) (.inl ⟨by kernel_rfl, fun W hW => by first | (obtain ⟨z0, z1, z2, z3, z4, z5, z6, z7, z8, z9, z10, z11⟩ := hW; go_simp; done) | (obtain ⟨z0, z1, z2, z3, z4, z5, z6, z7, z8, z9, z10, z11⟩ := hW; go_simp; omega) | (obtain ⟨z0, z1, z2, z3, z4, z5, z6, z7, z8, z9, z10, z11⟩ := hW; go_simp; simp [*]; done)⟩) hSs ?_
  try simp only [Act.put, List.setIfInBounds_toArray, List.set_cons_zero, List.set_cons_succ]
  refine wpAnyH_take (i := 6) (oi := ⟨some 61, _, _, _, _, _⟩) (v := .pointer (some ⟨g, o, none⟩)) rfl (by kernel_rfl) (by kernel_rfl) (by kernel_rfl) (fun _ _ _ h => h) (.inl ⟨by kernel_rfl, fun W hW => by first | (obtain ⟨z0, z1, z2, z3, z4, z5, z6, z7, z8, z9, z10, z11⟩ := hW; go_simp; done) | (obtain ⟨z0, z1, z2, z3, z4, z5, z6, z7, z8, z9, z10, z11⟩ := hW; go_simp; omega) | (obtain ⟨z0, z1, z2, z3, z4, z5, z6, z7, z8, z9, z10, z11⟩ := hW; go_simp; simp [*]; done)⟩) hSs ?_
  try simp only [Act.put, List.setIfInBounds_toArray, List.set_cons_zero, List.set_cons_succ]
  refine wpAnyH_take (i := 7) (oi := ⟨some 62, _, _, _, _, _⟩) (v := .agg #[.int .i64 k1, .string s1, .int .i64 n1, .int .i64 a1, .slice A1 m1 c1]) rfl (by kernel_rfl) (by kernel_rfl) (by kernel_rfl) (fun _ _ _ h => h) (.inl ⟨by kernel_rfl, fun W hW => by first | (obtain ⟨z0, z1, z2, z3, z4, z5, z6, z7, z8, z9, z10, z11⟩ := hW; go_simp; done) | (obtain ⟨z0, z1, z2, z3, z4, z5, z6, z7, z8, z9, z10, z11⟩ := hW; go_simp; omega) | (obtain ⟨z0, z1, z2, z3, z4, z5, z6, z7, z8, z9, z10, z11⟩ := hW; go_simp; simp [*]; done)⟩) hSs ?_
  try simp only [Act.put, List.setIfInBounds_toArray, List.set_cons_zero, List.set_cons_succ]
  refine wpAnyH_take (i := 11) (oi := ⟨some 66, _, _, _, _, _⟩) (v := .pointer (some ⟨W.heap.size, 4, none⟩)) rfl (by kernel_rfl) (by kernel_rfl) (by kernel_rfl) (fun _ _ _ h => h) (.inl ⟨by kernel_rfl, fun W hW => by first | (obtain ⟨z0, z1, z2, z3, z4, z5, z6, z7, z8, z9, z10, z11⟩ := hW; go_simp; done) | (obtain ⟨z0, z1, z2, z3, z4, z5, z6, z7, z8, z9, z10, z11⟩ := hW; go_simp; omega) | (obtain ⟨z0, z1, z2, z3, z4, z5, z6, z7, z8, z9, z10, z11⟩ := hW; go_simp; simp [*]; done)⟩) hSs ?_
  try simp only [Act.put, List.setIfInBounds_toArray, List.set_cons_zero, List.set_cons_succ]
  refine wpAnyH_take (i := 12) (oi := ⟨some 67, _, _, _, _, _⟩) (v := .slice (some ⟨g, o, none⟩) 2 (capF 2 c)) rfl (by kernel_rfl) (by kernel_rfl) (by kernel_rfl) (fun _ _ _ h => h) (.inl ⟨by kernel_rfl, fun W hW => by first | (obtain ⟨z0, z1, z2, z3, z4, z5, z6, z7, z8, z9, z10, z11⟩ := hW; go_simp; done) | (obtain ⟨z0, z1, z2, z3, z4, z5, z6, z7, z8, z9, z10, z11⟩ := hW; go_simp; omega) | (obtain ⟨z0, z1, z2, z3, z4, z5, z6, z7, z8, z9, z10, z11⟩ := hW; go_simp; simp [*]; done)⟩) hSs ?_
  try simp only [Act.put, List.setIfInBounds_toArray, List.set_cons_zero, List.set_cons_succ]
  refine wpAnyH_take (i := 13) (oi := ⟨some 68, _, _, _, _, _⟩) (v := .pointer (some ⟨g, o + 5, none⟩)) rfl (by kernel_rfl) (by kernel_rfl) (by kernel_rfl) (fun _ _ _ h => h) (.inl ⟨by kernel_rfl, fun W hW => by first | (obtain ⟨z0, z1, z2, z3, z4, z5, z6, z7, z8, z9, z10, z11⟩ := hW; go_simp; done) | (obtain ⟨z0, z1, z2, z3, z4, z5, z6, z7, z8, z9, z10, z11⟩ := hW; go_simp; omega) | (obtain ⟨z0, z1, z2, z3, z4, z5, z6, z7, z8, z9, z10, z11⟩ := hW; go_simp; simp [*]; done)⟩) hSs ?_
  try simp only [Act.put, List.setIfInBounds_toArray, List.set_cons_zero, List.set_cons_succ]
  refine wpAnyH_take (i := 14) (oi := ⟨some 69, _, _, _, _, _⟩) (v := .agg #[.int .i64 k2, .string s2, .int .i64 n2, .int .i64 a2, .slice A2 m2 c2]) rfl (by kernel_rfl) (by kernel_rfl) (by kernel_rfl) (fun _ _ _ h => h) (.inl ⟨by kernel_rfl, fun W hW => by first | (obtain ⟨z0, z1, z2, z3, z4, z5, z6, z7, z8, z9, z10, z11⟩ := hW; go_simp; done) | (obtain ⟨z0, z1, z2, z3, z4, z5, z6, z7, z8, z9, z10, z11⟩ := hW; go_simp; omega) | (obtain ⟨z0, z1, z2, z3, z4, z5, z6, z7, z8, z9, z10, z11⟩ := hW; go_simp; simp [*]; done)⟩) hSs ?_
  try simp only [Act.put, List.setIfInBounds_toArray, List.set_cons_zero, List.set_cons_succ]
  refine wpAnyH_ready (rs := [8]) (by kernel_rfl) (by simp) (AllReadyH.cons rfl (fun K hK => ?_) AllReadyH.nil)
  go_simp
  refine (HC.out _ hd0).mono ?_
  rintro e u1 ⟨rfl, hd1⟩
  refine hK.out _ _ (HS.out _ hd1) (fun hS1 => ?_)
  clear hK K
  try simp only [Act.put, List.setIfInBounds_toArray, List.set_cons_zero, List.set_cons_succ]
  refine wpAnyH_take (i := 9) (oi := ⟨some 64, _, _, _, _, _⟩) (v := .string ((((⟨#[108, 101, 116, 32]⟩ : ByteArray) ++ s) ++ (⟨#[32, 61, 32]⟩ : ByteArray)) ++ S)) rfl (by kernel_rfl) (by kernel_rfl) (by kernel_rfl) (fun _ _ _ h => h) (.inl ⟨by kernel_rfl, fun W hW => by first | (obtain ⟨z0, z1, z2, z3, z4, z5, z6, z7, z8, z9, z10, z11⟩ := hW; go_simp; done) | (obtain ⟨z0, z1, z2, z3, z4, z5, z6, z7, z8, z9, z10, z11⟩ := hW; go_simp; omega) | (obtain ⟨z0, z1, z2, z3, z4, z5, z6, z7, z8, z9, z10, z11⟩ := hW; go_simp; simp [*]; done)⟩) hS1 ?_
  try simp only [Act.put, List.setIfInBounds_toArray, List.set_cons_zero, List.set_cons_succ]
  refine wpAnyH_take (i := 10) (oi := ⟨some 65, _, _, _, _, _⟩) (v := .string (((((⟨#[108, 101, 116, 32]⟩ : ByteArray) ++ s) ++ (⟨#[32, 61, 32]⟩ : ByteArray)) ++ S) ++ (⟨#[32, 105, 110, 32]⟩ : ByteArray))) rfl (by kernel_rfl) (by kernel_rfl) (by kernel_rfl) (fun _ _ _ h => h) (.inl ⟨by kernel_rfl, fun W hW => by first | (obtain ⟨z0, z1, z2, z3, z4, z5, z6, z7, z8, z9, z10, z11⟩ := hW; go_simp; done) | (obtain ⟨z0, z1, z2, z3, z4, z5, z6, z7, z8, z9, z10, z11⟩ := hW; go_simp; omega) | (obtain ⟨z0, z1, z2, z3, z4, z5, z6, z7, z8, z9, z10, z11⟩ := hW; go_simp; simp [*]; done)⟩) hS1 ?_
  try simp only [Act.put, List.setIfInBounds_toArray, List.set_cons_zero, List.set_cons_succ]
  refine wpAnyH_ready (rs := [15]) (by kernel_rfl) (by simp) (AllReadyH.cons rfl (fun K hK => ?_) AllReadyH.nil)
  go_simp
  refine (HD.out _ hd1).mono ?_
  rintro e u2 ⟨rfl, hd2⟩
  refine hK.out _ _ (HS.out _ hd2) (fun hS2 => ?_)
  clear hK K
  try simp only [Act.put, List.setIfInBounds_toArray, List.set_cons_zero, List.set_cons_succ]
  refine wpAnyH_take (i := 16) (oi := ⟨some 71, _, _, _, _, _⟩) (v := .string ((((((⟨#[108, 101, 116, 32]⟩ : ByteArray) ++ s) ++ (⟨#[32, 61, 32]⟩ : ByteArray)) ++ S) ++ (⟨#[32, 105, 110, 32]⟩ : ByteArray)) ++ Z)) rfl (by kernel_rfl) (by kernel_rfl) (by kernel_rfl) (fun _ _ _ h => h) (.inl ⟨by kernel_rfl, fun W hW => by first | (obtain ⟨z0, z1, z2, z3, z4, z5, z6, z7, z8, z9, z10, z11⟩ := hW; go_simp; done) | (obtain ⟨z0, z1, z2, z3, z4, z5, z6, z7, z8, z9, z10, z11⟩ := hW; go_simp; omega) | (obtain ⟨z0, z1, z2, z3, z4, z5, z6, z7, z8, z9, z10, z11⟩ := hW; go_simp; simp [*]; done)⟩) hS2 ?_
  try simp only [Act.put, List.setIfInBounds_toArray, List.set_cons_zero, List.set_cons_succ]
  refine wpAnyH_take (i := 17) (oi := ⟨some 2, _, _, _, _, _⟩) (v := .string ((((((⟨#[108, 101, 116, 32]⟩ : ByteArray) ++ s) ++ (⟨#[32, 61, 32]⟩ : ByteArray)) ++ S) ++ (⟨#[32, 105, 110, 32]⟩ : ByteArray)) ++ Z)) rfl (by kernel_rfl) (by kernel_rfl) (by kernel_rfl) (fun _ _ _ h => h) (.inl ⟨by kernel_rfl, fun W hW => by kernel_rfl⟩) hS2 ?_
  try simp only [Act.put, List.setIfInBounds_toArray, List.set_cons_zero, List.set_cons_succ]
  refine wpAnyH_done (by kernel_rfl) ?_ _
  go_wp2_with fail
  go_ret
  refine ⟨?_, HZ.out.trans (hd2.mono (Nat.le_of_lt HLS.out))⟩
  show Ending.returned (Value.string (_ ++ Z)) = _
  congr 2
  apply ByteArray.ext
  apply Array.toList_inj.1
  simp [eS2, eZ2]
set_option maxHeartbeats 4000000 in
theorem rtx_rec (n a : Int) (s : ByteArray) (p q : Tr) (A : Option Addr) (c : Nat) (w : World) (hI : TIn w Any (.node 5 s n a [p, q]) A) (hlen : (showT (.node 5 s n a [p, q])).length ≤ 1000000)
    (hp : ∀ u ∈ [p, q], ∀ A' c', TIn w Any u A' → RTx w u A' c') : RTx w (.node 5 s n a [p, q]) A c := by
  intro W hW
  rw [show_let 5 (by decide)] at hlen ⊢
  obtain ⟨g, o, k1, s1, n1, a1, A1, m1, c1, rfl, hgW, q0, q1, q2, q3, q4, -, -, -, HX⟩ := rpart hI 0 (by simp [Tr.parts]) hW hp
  obtain ⟨g2, o2, k2, s2, n2, a2, A2, m2, c2, e2, -, r0, r1, r2, r3, r4, -, -, -, HY⟩ := rpart hI 1 (by simp [Tr.parts]) hW hp
  simp only [Option.some.injEq, Addr.mk.injEq, and_true] at e2
  obtain ⟨rfl, rfl⟩ := e2
  simp only [Tr.parts, List.getElem_cons_zero, List.getElem_cons_succ] at HX HY
  simp only [tv, Tr.kind, Tr.name, Tr.n, Tr.place, Tr.parts, List.length_cons, List.length_nil]
  simp only [Nat.zero_mul, Nat.one_mul, Nat.add_zero, Nat.add_assoc, Nat.reduceAdd] at q0 q1 q2 q3 q4 r0 r1 r2 r3 r4 ⊢
  obtain ⟨T, hT⟩ : ∃ T, T = showT p := ⟨_, rfl⟩
  obtain ⟨U, hU⟩ : ∃ T, T = showT q := ⟨_, rfl⟩
  rw [← hT] at hlen HX ⊢
  rw [← hU] at hlen HY ⊢
  clear hT hU hp hI
  have hz1 : s.size + T.length + U.length ≤ 1000000 := by
    simp at hlen
    omega
  clear hlen
  obtain ⟨S, eS2, eS3, hS⟩ := str_of T
  obtain ⟨Z, eZ2, eZ3, hZ⟩ := str_of U
  simp only [TxV, hS] at HX
  simp only [TxV, hZ] at HY
  obtain ⟨O, hO⟩ : ∃ O, O = Obj.cells #[.int .i64 5, .string s, .int .i64 n, .int .i64 a, .slice (some ⟨g, o, none⟩) 2 (capF 2 c)] 24 := ⟨_, rfl⟩
  have hL : Lies (W.alloc O) W.heap.size 24 #[.int .i64 5, .string s, .int .i64 n, .int .i64 a, .slice (some ⟨g, o, none⟩) 2 (capF 2 c)] := by
    rw [hO]
    exact Lies.new _ _ _
  have hz : Below W.heap.size W (W.alloc O) := (Below.refl _ W).alloc (Nat.le_refl _) _
  have hls : W.heap.size < (W.alloc O).heap.size := hL.lt
  have hS : ∀ V', Below (W.alloc O).heap.size (W.alloc O) V' → (fun V' : World => (V'.cell? ⟨W.heap.size, 1, none⟩ = some (.string s) ∧ V'.cell? ⟨W.heap.size, 4, none⟩ = some (.slice (some ⟨g, o, none⟩) 2 (capF 2 c)) ∧ V'.cell? ⟨g, o, none⟩ = some (.int .i64 k1) ∧ V'.cell? ⟨g, o + 1, none⟩ = some (.string s1) ∧ V'.cell? ⟨g, o + 2, none⟩ = some (.int .i64 n1) ∧ V'.cell? ⟨g, o + 3, none⟩ = some (.int .i64 a1) ∧ V'.cell? ⟨g, o + 4, none⟩ = some (.slice A1 m1 c1) ∧ V'.cell? ⟨g, o + 5, none⟩ = some (.int .i64 k2) ∧ V'.cell? ⟨g, o + 6, none⟩ = some (.string s2) ∧ V'.cell? ⟨g, o + 7, none⟩ = some (.int .i64 n2) ∧ V'.cell? ⟨g, o + 8, none⟩ = some (.int .i64 a2) ∧ V'.cell? ⟨g, o + 9, none⟩ = some (.slice A2 m2 c2))) V' := by
    intro V h
    have h1 := hL.below h hls
    have h2 := hz.trans (h.mono (Nat.le_of_lt hls))
    exact ⟨h1.cell 1, h1.cell 4, (h2.cell hgW).trans q0, (h2.cell hgW).trans q1, (h2.cell hgW).trans q2, (h2.cell hgW).trans q3, (h2.cell hgW).trans q4, (h2.cell hgW).trans r0, (h2.cell hgW).trans r1, (h2.cell hgW).trans r2, (h2.cell hgW).trans r3, (h2.cell hgW).trans r4⟩
  have HS := Lib.hid hS
  clear hS hL
  go_enter Tryz.func34, Tryz.ntmps34
  go_upto_region 11 with fail
  rw [← hO]
  obtain ⟨W5, hW5⟩ : ∃ X, X = W.alloc O := ⟨_, rfl⟩
  rw [← hW5] at hz hls HS ⊢
  have hd0 : Below W5.heap.size W5 W5.drew := (Below.refl _ W5).drew
  have HC := Lib.hid (fun X (h : Below W5.heap.size W5 X) => (HX X (hz.trans (h.mono (Nat.le_of_lt hls)))).mono fun e w' q => (⟨q.1, below_step h q.2⟩ : _ ∧ Below W5.heap.size W5 w'))
  have HD := Lib.hid (fun X (h : Below W5.heap.size W5 X) => (HY X (hz.trans (h.mono (Nat.le_of_lt hls)))).mono fun e w' q => (⟨q.1, below_step h q.2⟩ : _ ∧ Below W5.heap.size W5 w'))
  have hS0 := HS.out _ (Below.refl _ W5)
  have HZ := Lib.hid hz
  have HLS := Lib.hid hls
  have hb1 : ¬ 9223372036854775807 < 7 + s.size := by omega
  have hb2 : ¬ 9223372036854775807 < 7 + s.size + 3 := by omega
  have hb3 : ¬ 9223372036854775807 < 7 + s.size + 3 + S.size := by omega
  have hb4 : ¬ 9223372036854775807 < 7 + s.size + 3 + S.size + 4 := by omega
  have hb5 : ¬ 9223372036854775807 < 7 + s.size + 3 + S.size + 4 + Z.size := by omega
  clear hz hls hW5 hO HX HY q0 q1 q2 q3 q4 r0 r1 r2 r3 r4 hS hZ hW hgW hz1 eS3 eZ3
  refine wp_region_held_drew (S := (fun V' : World => (V'.cell? ⟨W.heap.size, 1, none⟩ = some (.string s) ∧ V'.cell? ⟨W.heap.size, 4, none⟩ = some (.slice (some ⟨g, o, none⟩) 2 (capF 2 c)) ∧ V'.cell? ⟨g, o, none⟩ = some (.int .i64 k1) ∧ V'.cell? ⟨g, o + 1, none⟩ = some (.string s1) ∧ V'.cell? ⟨g, o + 2, none⟩ = some (.int .i64 n1) ∧ V'.cell? ⟨g, o + 3, none⟩ = some (.int .i64 a1) ∧ V'.cell? ⟨g, o + 4, none⟩ = some (.slice A1 m1 c1) ∧ V'.cell? ⟨g, o + 5, none⟩ = some (.int .i64 k2) ∧ V'.cell? ⟨g, o + 6, none⟩ = some (.string s2) ∧ V'.cell? ⟨g, o + 7, none⟩ = some (.int .i64 n2) ∧ V'.cell? ⟨g, o + 8, none⟩ = some (.int .i64 a2) ∧ V'.cell? ⟨g, o + 9, none⟩ = some (.slice A2 m2 c2)))) rfl hS0 (fun hSs => ?_)
  change wpAnyH _ _ _ _ _ 18 (Array.replicate 18 false) _ _
  refine wpAnyH_take (i := 0) (oi := ⟨some 74, _, _, _, _, _⟩) (v := .pointer (some ⟨W.heap.size, 1, none⟩)) rfl (by kernel_rfl) (by kernel_rfl) (by kernel_rfl) (fun _ _ _ h => h) (.inl ⟨by kernel_rfl, fun W hW => by first | (obtain ⟨z0, z1, z2, z3, z4, z5, z6, z7, z8, z9, z10, z11⟩ := hW; go_simp; done) | (obtain ⟨z0, z1, z2, z3, z4, z5, z6, z7, z8, z9, z10, z11⟩ := hW; go_simp; omega) | (obtain ⟨z0, z1, z2, z3, z4, z5, z6, z7, z8, z9, z10, z11⟩ := hW; go_simp; simp [*]; done)⟩) hSs ?_
  try simp only [Act.put, List.setIfInBounds_toArray, List.set_cons_zero, List.set_cons_succ]
  refine wpAnyH_take (i := 1) (oi := ⟨some 75, _, _, _, _, _⟩) (v := .string s) rfl (by kernel_rfl) (by kernel_rfl) (by kernel_rfl) (fun _ _ _ h => h) (.inl ⟨by kernel_rfl, fun W hW => by first | (obtain ⟨z0, z1, z2, z3, z4, z5, z6, z7, z8, z9, z10, z11⟩ := hW; go_simp; done) | (obtain ⟨z0, z1, z2, z3, z4, z5, z6, z7, z8, z9, z10, z11⟩ := hW; go_simp; omega) | (obtain ⟨z0, z1, z2, z3, z4, z5, z6, z7, z8, z9, z10, z11⟩ := hW; go_simp; simp [*]; done)⟩) hSs ?_
  try simp only [Act.put, List.setIfInBounds_toArray, List.set_cons_zero, List.set_cons_succ]
  refine wpAnyH_take (i := 2) (oi := ⟨some 76, _, _, _, _, _⟩) (v := .string ((⟨#[108, 101, 116, 114, 101, 99, 32]⟩ : ByteArray) ++ s)) rfl (by kernel_rfl) (by kernel_rfl) (by kernel_rfl) (fun _ _ _ h => h) (.inl ⟨by kernel_rfl, fun W hW => by first | (obtain ⟨z0, z1, z2, z3, z4, z5, z6, z7, z8, z9, z10, z11⟩ := hW; go_simp; done) | (obtain ⟨z0, z1, z2, z3, z4, z5, z6, z7, z8, z9, z10, z11⟩ := hW; go_simp; omega) | (obtain ⟨z0, z1, z2, z3, z4, z5, z6, z7, z8, z9, z10, z11⟩ := hW; go_simp; simp [*]; done)⟩) hSs ?_
  try simp only [Act.put, List.setIfInBounds_toArray, List.set_cons_zero, List.set_cons_succ]
  refine wpAnyH_take (i := 3) (oi := ⟨some 77, _, _, _, _, _⟩) (v := .string (((⟨#[108, 101, 116, 114, 101, 99, 32]⟩ : ByteArray) ++ s) ++ (⟨#[32, 61, 32]⟩ : ByteArray))) rfl (by kernel_rfl) (by kernel_rfl) (by kernel_rfl) (fun _ _ _ h => h) (.inl ⟨by kernel_rfl, fun W hW => by first | (obtain ⟨z0, z1, z2, z3, z4, z5, z6, z7, z8, z9, z10, z11⟩ := hW; go_simp; done) | (obtain ⟨z0, z1, z2, z3, z4, z5, z6, z7, z8, z9, z10, z11⟩ := hW; go_simp; omega) | (obtain ⟨z0, z1, z2, z3, z4, z5, z6, z7, z8, z9, z10, z11⟩ := hW; go_simp; simp [*]; done)⟩) hSs ?_
  try simp only [Act.put, List.setIfInBounds_toArray, List.set_cons_zero, List.set_cons_succ]
  refine wpAnyH_take (i := 4) (oi := ⟨some 78, _, _, _, _, _⟩) (v := .pointer (some ⟨W.heap.size, 4, none⟩)) rfl (by kernel_rfl) (by kernel_rfl) (by kernel_rfl) (fun _ _ _ h => h) (.inl ⟨by kernel_rfl, fun W hW => by first | (obtain ⟨z0, z1, z2, z3, z4, z5, z6, z7, z8, z9, z10, z11⟩ := hW; go_simp; done) | (obtain ⟨z0, z1, z2, z3, z4, z5, z6, z7, z8, z9, z10, z11⟩ := hW; go_simp; omega) | (obtain ⟨z0, z1, z2, z3, z4, z5, z6, z7, z8, z9, z10, z11⟩ := hW; go_simp; simp [*]; done)⟩) hSs ?_
  try simp only [Act.put, List.setIfInBounds_toArray, List.set_cons_zero, List.set_cons_succ]
  refine wpAnyH_take (i := 5) (oi := ⟨some 79, _, _, _, _, _⟩) (v := .slice (some ⟨g, o, none⟩) 2 (capF 2 c)) rfl (by kernel_rfl) (by kernel_rfl) (by kernel_rfl) (fun _ _ _ h => h) (.inl ⟨by kernel_rfl, fun W hW => by first | (obtain ⟨z0, z1, z2, z3, z4, z5, z6, z7, z8, z9, z10, z11⟩ := hW; go_simp; done) | (obtain ⟨z0, z1, z2, z3, z4, z5, z6, z7, z8, z9, z10, z11⟩ := hW; go_simp; omega) | (obtain ⟨z0, z1, z2, z3, z4, z5, z6, z7, z8, z9, z10, z11⟩ := hW; go_simp; simp [*]; done)⟩) hSs ?_
  try simp only [Act.put, List.setIfInBounds_toArray, List.set_cons_zero, List.set_cons_succ]
  refine wpAnyH_take (i := 6) (oi := ⟨some 80, _, _, _, _, _⟩) (v := .pointer (some ⟨g, o, none⟩)) rfl (by kernel_rfl) (by kernel_rfl) (by kernel_rfl) (fun _ _ _ h => h) (.inl ⟨by kernel_rfl, fun W hW => by first | (obtain ⟨z0, z1, z2, z3, z4, z5, z6, z7, z8, z9, z10, z11⟩ := hW; go_simp; done) | (obtain ⟨z0, z1, z2, z3, z4, z5, z6, z7, z8, z9, z10, z11⟩ := hW; go_simp; omega) | (obtain ⟨z0, z1, z2, z3, z4, z5, z6, z7, z8, z9, z10, z11⟩ := hW; go_simp; simp [*]; done)⟩) hSs ?_
  try simp only [Act.put, List.setIfInBounds_toArray, List.set_cons_zero, List.set_cons_succ]
  refine wpAnyH_take (i := 7) (oi := ⟨some 81, _, _, _, _, _⟩) (v := .agg #[.int .i64 k1, .string s1, .int .i64 n1, .int .i64 a1, .slice A1 m1 c1]) rfl (by kernel_rfl) (by kernel_rfl) (by kernel_rfl) (fun _ _ _ h => h) (.inl ⟨by kernel_rfl, fun W hW => by first | (obtain ⟨z0, z1, z2, z3, z4, z5, z6, z7, z8, z9, z10, z11⟩ := hW; go_simp; done) | (obtain ⟨z0, z1, z2, z3, z4, z5, z6, z7, z8, z9, z10, z11⟩ := hW; go_simp; omega) | (obtain ⟨z0, z1, z2, z3, z4, z5, z6, z7, z8, z9, z10, z11⟩ := hW; go_simp; simp [*]; done)⟩) hSs ?_
  try simp only [Act.put, List.setIfInBounds_toArray, List.set_cons_zero, List.set_cons_succ]
  refine wpAnyH_take (i := 11) (oi := ⟨some 85, _, _, _, _, _⟩) (v := .pointer (some ⟨W.heap.size, 4, none⟩)) rfl (by kernel_rfl) (by kernel_rfl) (by kernel_rfl) (fun _ _ _ h => h) (.inl ⟨by kernel_rfl, fun W hW => by first | (obtain ⟨z0, z1, z2, z3, z4, z5, z6, z7, z8, z9, z10, z11⟩ := hW; go_simp; done) | (obtain ⟨z0, z1, z2, z3, z4, z5, z6, z7, z8, z9, z10, z11⟩ := hW; go_simp; omega) | (obtain ⟨z0, z1, z2, z3, z4, z5, z6, z7, z8, z9, z10, z11⟩ := hW; go_simp; simp [*]; done)⟩) hSs ?_
  try simp only [Act.put, List.setIfInBounds_toArray, List.set_cons_zero, List.set_cons_succ]
  refine wpAnyH_take (i := 12) (oi := ⟨some 86, _, _, _, _, _⟩) (v := .slice (some ⟨g, o, none⟩) 2 (capF 2 c)) rfl (by kernel_rfl) (by kernel_rfl) (by kernel_rfl) (fun _ _ _ h => h) (.inl ⟨by kernel_rfl, fun W hW => by first | (obtain ⟨z0, z1, z2, z3, z4, z5, z6, z7, z8, z9, z10, z11⟩ := hW; go_simp; done) | (obtain ⟨z0, z1, z2, z3, z4, z5, z6, z7, z8, z9, z10, z11⟩ := hW; go_simp; omega) | (obtain ⟨z0, z1, z2, z3, z4, z5, z6, z7, z8, z9, z10, z11⟩ := hW; go_simp; simp [*]; done)⟩) hSs ?_
  try simp only [Act.put, List.setIfInBounds_toArray, List.set_cons_zero, List.set_cons_succ]
  refine wpAnyH_take (i := 13) (oi := ⟨some 87, _, _, _, _, _⟩) (v := .pointer (some ⟨g, o + 5, none⟩)) rfl (by kernel_rfl) (by kernel_rfl) (by kernel_rfl) (fun _ _ _ h => h) (.inl ⟨by kernel_rfl, fun W hW => by first | (obtain ⟨z0, z1, z2, z3, z4, z5, z6, z7, z8, z9, z10, z11⟩ := hW; go_simp; done) | (obtain ⟨z0, z1, z2, z3, z4, z5, z6, z7, z8, z9, z10, z11⟩ := hW; go_simp; omega) | (obtain ⟨z0, z1, z2, z3, z4, z5, z6, z7, z8, z9, z10, z11⟩ := hW; go_simp; simp [*]; done)⟩) hSs ?_
  try simp only [Act.put, List.setIfInBounds_toArray, List.set_cons_zero, List.set_cons_succ]
  refine wpAnyH_take (i := 14) (oi := ⟨some 88, _, _, _, _, _⟩) (v := .agg #[.int .i64 k2, .string s2, .int .i64 n2, .int .i64 a2, .slice A2 m2 c2]) rfl (by kernel_rfl) (by kernel_rfl) (by kernel_rfl) (fun _ _ _ h => h) (.inl ⟨by kernel_rfl, fun W hW => by first | (obtain ⟨z0, z1, z2, z3, z4, z5, z6, z7, z8, z9, z10, z11⟩ := hW; go_simp; done) | (obtain ⟨z0, z1, z2, z3, z4, z5, z6, z7, z8, z9, z10, z11⟩ := hW; go_simp; omega) | (obtain ⟨z0, z1, z2, z3, z4, z5, z6, z7, z8, z9, z10, z11⟩ := hW; go_simp; simp [*]; done)⟩) hSs ?_
  try simp only [Act.put, List.setIfInBounds_toArray, List.set_cons_zero, List.set_cons_succ]
  refine wpAnyH_ready (rs := [8]) (by kernel_rfl) (by simp) (AllReadyH.cons rfl (fun K hK => ?_) AllReadyH.nil)
  go_simp
  refine (HC.out _ hd0).mono ?_
  rintro e u1 ⟨rfl, hd1⟩
  refine hK.out _ _ (HS.out _ hd1) (fun hS1 => ?_)
  clear hK K
  try simp only [Act.put, List.setIfInBounds_toArray, List.set_cons_zero, List.set_cons_succ]
  refine wpAnyH_take (i := 9) (oi := ⟨some 83, _, _, _, _, _⟩) (v := .string ((((⟨#[108, 101, 116, 114, 101, 99, 32]⟩ : ByteArray) ++ s) ++ (⟨#[32, 61, 32]⟩ : ByteArray)) ++ S)) rfl (by kernel_rfl) (by kernel_rfl) (by kernel_rfl) (fun _ _ _ h => h) (.inl ⟨by kernel_rfl, fun W hW => by first | (obtain ⟨z0, z1, z2, z3, z4, z5, z6, z7, z8, z9, z10, z11⟩ := hW; go_simp; done) | (obtain ⟨z0, z1, z2, z3, z4, z5, z6, z7, z8, z9, z10, z11⟩ := hW; go_simp; omega) | (obtain ⟨z0, z1, z2, z3, z4, z5, z6, z7, z8, z9, z10, z11⟩ := hW; go_simp; simp [*]; done)⟩) hS1 ?_
  try simp only [Act.put, List.setIfInBounds_toArray, List.set_cons_zero, List.set_cons_succ]
  refine wpAnyH_take (i := 10) (oi := ⟨some 84, _, _, _, _, _⟩) (v := .string (((((⟨#[108, 101, 116, 114, 101, 99, 32]⟩ : ByteArray) ++ s) ++ (⟨#[32, 61, 32]⟩ : ByteArray)) ++ S) ++ (⟨#[32, 105, 110, 32]⟩ : ByteArray))) rfl (by kernel_rfl) (by kernel_rfl) (by kernel_rfl) (fun _ _ _ h => h) (.inl ⟨by kernel_rfl, fun W hW => by first | (obtain ⟨z0, z1, z2, z3, z4, z5, z6, z7, z8, z9, z10, z11⟩ := hW; go_simp; done) | (obtain ⟨z0, z1, z2, z3, z4, z5, z6, z7, z8, z9, z10, z11⟩ := hW; go_simp; omega) | (obtain ⟨z0, z1, z2, z3, z4, z5, z6, z7, z8, z9, z10, z11⟩ := hW; go_simp; simp [*]; done)⟩) hS1 ?_
  try simp only [Act.put, List.setIfInBounds_toArray, List.set_cons_zero, List.set_cons_succ]
  refine wpAnyH_ready (rs := [15]) (by kernel_rfl) (by simp) (AllReadyH.cons rfl (fun K hK => ?_) AllReadyH.nil)
  go_simp
  refine (HD.out _ hd1).mono ?_
  rintro e u2 ⟨rfl, hd2⟩
  refine hK.out _ _ (HS.out _ hd2) (fun hS2 => ?_)
  clear hK K
  try simp only [Act.put, List.setIfInBounds_toArray, List.set_cons_zero, List.set_cons_succ]
  refine wpAnyH_take (i := 16) (oi := ⟨some 90, _, _, _, _, _⟩) (v := .string ((((((⟨#[108, 101, 116, 114, 101, 99, 32]⟩ : ByteArray) ++ s) ++ (⟨#[32, 61, 32]⟩ : ByteArray)) ++ S) ++ (⟨#[32, 105, 110, 32]⟩ : ByteArray)) ++ Z)) rfl (by kernel_rfl) (by kernel_rfl) (by kernel_rfl) (fun _ _ _ h => h) (.inl ⟨by kernel_rfl, fun W hW => by first | (obtain ⟨z0, z1, z2, z3, z4, z5, z6, z7, z8, z9, z10, z11⟩ := hW; go_simp; done) | (obtain ⟨z0, z1, z2, z3, z4, z5, z6, z7, z8, z9, z10, z11⟩ := hW; go_simp; omega) | (obtain ⟨z0, z1, z2, z3, z4, z5, z6, z7, z8, z9, z10, z11⟩ := hW; go_simp; simp [*]; done)⟩) hS2 ?_
  try simp only [Act.put, List.setIfInBounds_toArray, List.set_cons_zero, List.set_cons_succ]
  refine wpAnyH_take (i := 17) (oi := ⟨some 2, _, _, _, _, _⟩) (v := .string ((((((⟨#[108, 101, 116, 114, 101, 99, 32]⟩ : ByteArray) ++ s) ++ (⟨#[32, 61, 32]⟩ : ByteArray)) ++ S) ++ (⟨#[32, 105, 110, 32]⟩ : ByteArray)) ++ Z)) rfl (by kernel_rfl) (by kernel_rfl) (by kernel_rfl) (fun _ _ _ h => h) (.inl ⟨by kernel_rfl, fun W hW => by kernel_rfl⟩) hS2 ?_
  try simp only [Act.put, List.setIfInBounds_toArray, List.set_cons_zero, List.set_cons_succ]
  refine wpAnyH_done (by kernel_rfl) ?_ _
  go_wp2_with fail
  go_ret
  refine ⟨?_, HZ.out.trans (hd2.mono (Nat.le_of_lt HLS.out))⟩
  show Ending.returned (Value.string (_ ++ Z)) = _
  congr 2
  apply ByteArray.ext
  apply Array.toList_inj.1
  simp [eS2, eZ2]
end Lx
end Go.Proofs.YteabbkhlgnoliaaGreatDoor
namespace Go.Proofs.YteabbkhlgnoliaaGreatDoor
open Go.RowKit
namespace Lx
set_option maxRecDepth 100000
/-- What a text at a level that is asked of a value answers, from a world on. -/
def AxV (W : World) (v : Value) (lv : Int) (T : List UInt8) : Prop := ∀ W1, Below W.heap.size W W1 → Calls Tryz.prog 60 #[v, .int .i64 lv] W1 fun e w' => e = .returned (.string ⟨T.toArray⟩) ∧ Below W1.heap.size W1 w'
/-- The reference's level is the tree's. -/
def LvOk (t : Tr) : Prop := levelR t.kind t.name.data.toList t.parts.length = levelN t.kind t.name.data.toList t.parts.length
/-- The part i lies there, and its text, and that at a level, are told. -/
theorem rpart2 {t : Tr} {w W : World} {A : Option Addr} (hI : TIn w Any t A) (i : Nat) (hi : i < t.parts.length) (hW : Below w.heap.size w W) (hp : ∀ p ∈ t.parts, ∀ A' c', TIn w Any p A' → RTx w p A' c') (hv : LvOk (t.parts[i]'hi)) (hz : (showT (t.parts[i]'hi)).length ≤ 1000000) :
    ∃ g o k1 s1 n1 a1 A1 m1 c1, A = some ⟨g, o, none⟩ ∧ g < W.heap.size ∧ W.cell? ⟨g, o + i * 5, none⟩ = some (.int .i64 k1) ∧ W.cell? ⟨g, o + i * 5 + 1, none⟩ = some (.string s1) ∧ W.cell? ⟨g, o + i * 5 + 2, none⟩ = some (.int .i64 n1) ∧
      W.cell? ⟨g, o + i * 5 + 3, none⟩ = some (.int .i64 a1) ∧ W.cell? ⟨g, o + i * 5 + 4, none⟩ = some (.slice A1 m1 c1) ∧ k1 = (t.parts[i]'hi).kind ∧
      TxV W (.agg #[.int .i64 k1, .string s1, .int .i64 n1, .int .i64 a1, .slice A1 m1 c1]) (showT (t.parts[i]'hi)) ∧ (∀ lv, AxV W (.agg #[.int .i64 k1, .string s1, .int .i64 n1, .int .i64 a1, .slice A1 m1 c1]) lv (parS lv (levelT (t.parts[i]'hi), showT (t.parts[i]'hi)))) := by
  obtain ⟨g, o, A', c', ⟨rfl, _⟩, q0, q1, q2, q3, q4, q5⟩ := TIn.part hI i hi
  have hg : g < w.heap.size := cell_lt q0
  have hr := hp _ (List.getElem_mem hi) A' c' q5
  refine ⟨g, o, _, _, _, _, _, _, _, rfl, Nat.lt_of_lt_of_le hg hW.size, (hW.cell hg).trans q0, (hW.cell hg).trans q1, (hW.cell hg).trans q2, (hW.cell hg).trans q3, (hW.cell hg).trans q4, rfl, ?_, ?_⟩
  · intro W1 h
    have := hr W1 (below_step hW h)
    simpa only [tv] using this
  · intro lv W1 h
    obtain ⟨u, hu⟩ : ∃ u, u = t.parts[i]'hi := ⟨_, rfl⟩
    rw [← hu] at hr hv hz ⊢
    obtain ⟨k, s, n, a, l⟩ := u
    have := rat_any lv k n a s l A' c' w W1 hv hr hz (below_step hW h)
    simpa only [tv] using this
theorem show_app (n a : Int) (s : ByteArray) (p q : Tr) : showT (.node 3 s n a [p, q]) = parS 4 (if p.kind = 6 then -1 else levelT p, showT p) ++ [32] ++ parS 5 (levelT q, showT q) := by
  simp [showT, showL, wordsN, joinS, atD]
theorem show_op (n a : Int) (s : ByteArray) (p q : Tr) : showT (.node 10 s n a [p, q]) = parS (if levelS s.data.toList = 1 then 2 else levelS s.data.toList) (levelT p, showT p) ++ [32] ++ s.data.toList ++ [32] ++ parS (levelS s.data.toList + 1) (levelT q, showT q) := by
  simp [showT, showL, wordsN, joinS, atD]
theorem len_parS (lv : Int) (x : Int × List UInt8) : x.2.length ≤ (parS lv x).length ∧ (parS lv x).length ≤ x.2.length + 2 := by
  unfold parS
  split
  · omega
  · simp; omega
set_option maxHeartbeats 4000000 in
theorem rtx_appc (n a : Int) (s : ByteArray) (p q : Tr) (A : Option Addr) (c : Nat) (w : World) (hsz : s.size ≤ 1000000) (hpk : p.kind = 6) (hI : TIn w Any (.node 3 s n a [p, q]) A) (hlen : (showT (.node 3 s n a [p, q])).length ≤ 1000000)
    (hv1 : LvOk p) (hv2 : LvOk q) (hp : ∀ u ∈ [p, q], ∀ A' c', TIn w Any u A' → RTx w u A' c') : RTx w (.node 3 s n a [p, q]) A c := by
  intro W hW
  rw [show_app, if_pos hpk] at hlen ⊢
  have e1 := len_parS (4) (-1, showT p)
  have e2 := len_parS (5) (levelT q, showT q)
  have hz1 : s.size ≤ 1000000 ∧ (showT p).length ≤ 1000000 ∧ (showT q).length ≤ 1000000 := by
    have h9 : s.data.toList.length = s.size := by simp
    simp only [List.length_append, List.length_cons, List.length_nil] at hlen
    simp only at e1 e2
    have h8 := hlen
    refine ⟨hsz, ?_, ?_⟩ <;> omega
  obtain ⟨hz2, hz3, hz4⟩ := hz1
  obtain ⟨g, o, k1, s1, n1, a1, A1, m1, c1, rfl, hgW, q0, q1, q2, q3, q4, hk1, HX, HXA⟩ := rpart2 hI 0 (by simp [Tr.parts]) hW hp hv1 hz3
  obtain ⟨g2, o2, k2, s2, n2, a2, A2, m2, c2, e2', -, r0, r1, r2, r3, r4, -, HY, HYA⟩ := rpart2 hI 1 (by simp [Tr.parts]) hW hp hv2 hz4
  simp only [Option.some.injEq, Addr.mk.injEq, and_true] at e2'
  obtain ⟨rfl, rfl⟩ := e2'
  simp only [Tr.parts, List.getElem_cons_zero, List.getElem_cons_succ] at HX HY HXA HYA hk1
  simp only [tv, Tr.kind, Tr.name, Tr.n, Tr.place, Tr.parts, List.length_cons, List.length_nil]
  simp only [Nat.zero_mul, Nat.one_mul, Nat.add_zero, Nat.add_assoc, Nat.reduceAdd] at q0 q1 q2 q3 q4 r0 r1 r2 r3 r4 ⊢
  rw [hpk] at hk1
  subst hk1
  rw [show parS 4 (-1, showT p) = 40 :: showT p ++ [41] from rfl]
  have HX := HX
  have HY := HYA 5
  obtain ⟨T, hT⟩ : ∃ T, T = showT p := ⟨_, rfl⟩
  obtain ⟨U, hU⟩ : ∃ T, T = parS 5 (levelT q, showT q) := ⟨_, rfl⟩
  rw [← hT] at HX ⊢
  rw [← hU] at e2 HY ⊢
  have hz5 : T.length ≤ 1000002 ∧ U.length ≤ 1000002 := by
    simp only at e1 e2
    rw [hT]; omega
  clear hT hU hp hI e1 e2 HXA HYA hv1 hv2 hz3 hz4 hlen
  obtain ⟨S, eS2, eS3, hS⟩ := str_of T
  obtain ⟨Z, eZ2, eZ3, hZ⟩ := str_of U
  simp only [TxV, hS] at HX
  simp only [AxV, hZ] at HY
  obtain ⟨O, hO⟩ : ∃ O, O = Obj.cells #[.int .i64 3, .string s, .int .i64 n, .int .i64 a, .slice (some ⟨g, o, none⟩) 2 (capF 2 c)] 24 := ⟨_, rfl⟩
  have hL : Lies (W.alloc O) W.heap.size 24 #[.int .i64 3, .string s, .int .i64 n, .int .i64 a, .slice (some ⟨g, o, none⟩) 2 (capF 2 c)] := by
    rw [hO]
    exact Lies.new _ _ _
  have hz : Below W.heap.size W (W.alloc O) := (Below.refl _ W).alloc (Nat.le_refl _) _
  have hls : W.heap.size < (W.alloc O).heap.size := hL.lt
  have hcz : ∀ V, Below (W.alloc O).heap.size (W.alloc O) V → (fun V' : World => (V'.cell? ⟨W.heap.size, 1, none⟩ = some (.string s) ∧ V'.cell? ⟨W.heap.size, 4, none⟩ = some (.slice (some ⟨g, o, none⟩) 2 (capF 2 c)) ∧ V'.cell? ⟨g, o, none⟩ = some (.int .i64 6) ∧ V'.cell? ⟨g, o + 1, none⟩ = some (.string s1) ∧ V'.cell? ⟨g, o + 2, none⟩ = some (.int .i64 n1) ∧ V'.cell? ⟨g, o + 3, none⟩ = some (.int .i64 a1) ∧ V'.cell? ⟨g, o + 4, none⟩ = some (.slice A1 m1 c1) ∧ V'.cell? ⟨g, o + 5, none⟩ = some (.int .i64 k2) ∧ V'.cell? ⟨g, o + 6, none⟩ = some (.string s2) ∧ V'.cell? ⟨g, o + 7, none⟩ = some (.int .i64 n2) ∧ V'.cell? ⟨g, o + 8, none⟩ = some (.int .i64 a2) ∧ V'.cell? ⟨g, o + 9, none⟩ = some (.slice A2 m2 c2))) V := by
    intro V h
    have h1 := hL.below h hls
    have h2 := hz.trans (h.mono (Nat.le_of_lt hls))
    exact ⟨h1.cell 1, h1.cell 4, (h2.cell hgW).trans q0, (h2.cell hgW).trans q1, (h2.cell hgW).trans q2, (h2.cell hgW).trans q3, (h2.cell hgW).trans q4, (h2.cell hgW).trans r0, (h2.cell hgW).trans r1, (h2.cell hgW).trans r2, (h2.cell hgW).trans r3, (h2.cell hgW).trans r4⟩
  have HS := Lib.hid hcz
  
  
  clear hcz 
  go_enter Tryz.func34, Tryz.ntmps34
  obtain ⟨q5, -⟩ := HS.out _ (Below.refl _ _)
  have q6 := (HS.out _ (Below.refl _ _)).2.1
  have q7 := (HS.out _ (Below.refl _ _)).2.2.1
  rw [hO] at q5 q6 q7
  go_upto_region 6 with fail
  rw [← hO]
  obtain ⟨W5, hW5⟩ : ∃ X, X = W.alloc O := ⟨_, rfl⟩
  rw [← hW5] at hz hls HS ⊢
  clear q5 q6 q7 hL
  have hd0 : Below W5.heap.size W5 W5.drew := (Below.refl _ W5).drew
  have HC := Lib.hid (fun X (h : Below W5.heap.size W5 X) => (HX X (hz.trans (h.mono (Nat.le_of_lt hls)))).mono fun e w' q => (⟨q.1, below_step h q.2⟩ : _ ∧ Below W5.heap.size W5 w'))
  have HD := Lib.hid (fun X (h : Below W5.heap.size W5 X) => (HY X (hz.trans (h.mono (Nat.le_of_lt hls)))).mono fun e w' q => (⟨q.1, below_step h q.2⟩ : _ ∧ Below W5.heap.size W5 w'))
  have hS0 := HS.out _ (Below.refl _ W5)
  have HZ := Lib.hid hz
  have HLS := Lib.hid hls
  have hb0 : ¬ 9223372036854775807 < 1 + S.size := by omega
  have hb1 : ¬ 9223372036854775807 < 1 + S.size + 2 := by omega
  have hb2 : ¬ 9223372036854775807 < 1 + S.size + 2 + Z.size := by omega
  clear hz hls HX HY q0 q1 q2 q3 q4 r0 r1 r2 r3 r4 hS hZ hW hgW hz2 hz5 eS3 eZ3 hW5 hO hsz
  refine wp_region_held_drew (S := (fun V' : World => (V'.cell? ⟨W.heap.size, 1, none⟩ = some (.string s) ∧ V'.cell? ⟨W.heap.size, 4, none⟩ = some (.slice (some ⟨g, o, none⟩) 2 (capF 2 c)) ∧ V'.cell? ⟨g, o, none⟩ = some (.int .i64 6) ∧ V'.cell? ⟨g, o + 1, none⟩ = some (.string s1) ∧ V'.cell? ⟨g, o + 2, none⟩ = some (.int .i64 n1) ∧ V'.cell? ⟨g, o + 3, none⟩ = some (.int .i64 a1) ∧ V'.cell? ⟨g, o + 4, none⟩ = some (.slice A1 m1 c1) ∧ V'.cell? ⟨g, o + 5, none⟩ = some (.int .i64 k2) ∧ V'.cell? ⟨g, o + 6, none⟩ = some (.string s2) ∧ V'.cell? ⟨g, o + 7, none⟩ = some (.int .i64 n2) ∧ V'.cell? ⟨g, o + 8, none⟩ = some (.int .i64 a2) ∧ V'.cell? ⟨g, o + 9, none⟩ = some (.slice A2 m2 c2)))) rfl hS0 (fun hSs => ?_)
  change wpAnyH _ _ _ _ _ 14 (Array.replicate 14 false) _ _
  refine wpAnyH_take (i := 0) (oi := ⟨some 28, _, _, _, _, _⟩) (v := .pointer (some ⟨W.heap.size, 4, none⟩)) rfl (by kernel_rfl) (by kernel_rfl) (by kernel_rfl) (fun _ _ _ h => h) (.inl ⟨by kernel_rfl, fun W hW => by first | (obtain ⟨z0, z1, z2, z3, z4, z5, z6, z7, z8, z9, z10, z11⟩ := hW; go_simp; done) | (obtain ⟨z0, z1, z2, z3, z4, z5, z6, z7, z8, z9, z10, z11⟩ := hW; go_simp; omega) | (obtain ⟨z0, z1, z2, z3, z4, z5, z6, z7, z8, z9, z10, z11⟩ := hW; go_simp; simp [*]; done)⟩) hSs ?_
  try simp only [Act.put, List.setIfInBounds_toArray, List.set_cons_zero, List.set_cons_succ]
  refine wpAnyH_take (i := 1) (oi := ⟨some 29, _, _, _, _, _⟩) (v := .slice (some ⟨g, o, none⟩) 2 (capF 2 c)) rfl (by kernel_rfl) (by kernel_rfl) (by kernel_rfl) (fun _ _ _ h => h) (.inl ⟨by kernel_rfl, fun W hW => by first | (obtain ⟨z0, z1, z2, z3, z4, z5, z6, z7, z8, z9, z10, z11⟩ := hW; go_simp; done) | (obtain ⟨z0, z1, z2, z3, z4, z5, z6, z7, z8, z9, z10, z11⟩ := hW; go_simp; omega) | (obtain ⟨z0, z1, z2, z3, z4, z5, z6, z7, z8, z9, z10, z11⟩ := hW; go_simp; simp [*]; done)⟩) hSs ?_
  try simp only [Act.put, List.setIfInBounds_toArray, List.set_cons_zero, List.set_cons_succ]
  refine wpAnyH_take (i := 2) (oi := ⟨some 30, _, _, _, _, _⟩) (v := .pointer (some ⟨g, o, none⟩)) rfl (by kernel_rfl) (by kernel_rfl) (by kernel_rfl) (fun _ _ _ h => h) (.inl ⟨by kernel_rfl, fun W hW => by first | (obtain ⟨z0, z1, z2, z3, z4, z5, z6, z7, z8, z9, z10, z11⟩ := hW; go_simp; done) | (obtain ⟨z0, z1, z2, z3, z4, z5, z6, z7, z8, z9, z10, z11⟩ := hW; go_simp; omega) | (obtain ⟨z0, z1, z2, z3, z4, z5, z6, z7, z8, z9, z10, z11⟩ := hW; go_simp; simp [*]; done)⟩) hSs ?_
  try simp only [Act.put, List.setIfInBounds_toArray, List.set_cons_zero, List.set_cons_succ]
  refine wpAnyH_take (i := 3) (oi := ⟨some 31, _, _, _, _, _⟩) (v := .agg #[.int .i64 6, .string s1, .int .i64 n1, .int .i64 a1, .slice A1 m1 c1]) rfl (by kernel_rfl) (by kernel_rfl) (by kernel_rfl) (fun _ _ _ h => h) (.inl ⟨by kernel_rfl, fun W hW => by first | (obtain ⟨z0, z1, z2, z3, z4, z5, z6, z7, z8, z9, z10, z11⟩ := hW; go_simp; done) | (obtain ⟨z0, z1, z2, z3, z4, z5, z6, z7, z8, z9, z10, z11⟩ := hW; go_simp; omega) | (obtain ⟨z0, z1, z2, z3, z4, z5, z6, z7, z8, z9, z10, z11⟩ := hW; go_simp; simp [*]; done)⟩) hSs ?_
  try simp only [Act.put, List.setIfInBounds_toArray, List.set_cons_zero, List.set_cons_succ]
  refine wpAnyH_take (i := 7) (oi := ⟨some 35, _, _, _, _, _⟩) (v := .pointer (some ⟨W.heap.size, 4, none⟩)) rfl (by kernel_rfl) (by kernel_rfl) (by kernel_rfl) (fun _ _ _ h => h) (.inl ⟨by kernel_rfl, fun W hW => by first | (obtain ⟨z0, z1, z2, z3, z4, z5, z6, z7, z8, z9, z10, z11⟩ := hW; go_simp; done) | (obtain ⟨z0, z1, z2, z3, z4, z5, z6, z7, z8, z9, z10, z11⟩ := hW; go_simp; omega) | (obtain ⟨z0, z1, z2, z3, z4, z5, z6, z7, z8, z9, z10, z11⟩ := hW; go_simp; simp [*]; done)⟩) hSs ?_
  try simp only [Act.put, List.setIfInBounds_toArray, List.set_cons_zero, List.set_cons_succ]
  refine wpAnyH_take (i := 8) (oi := ⟨some 36, _, _, _, _, _⟩) (v := .slice (some ⟨g, o, none⟩) 2 (capF 2 c)) rfl (by kernel_rfl) (by kernel_rfl) (by kernel_rfl) (fun _ _ _ h => h) (.inl ⟨by kernel_rfl, fun W hW => by first | (obtain ⟨z0, z1, z2, z3, z4, z5, z6, z7, z8, z9, z10, z11⟩ := hW; go_simp; done) | (obtain ⟨z0, z1, z2, z3, z4, z5, z6, z7, z8, z9, z10, z11⟩ := hW; go_simp; omega) | (obtain ⟨z0, z1, z2, z3, z4, z5, z6, z7, z8, z9, z10, z11⟩ := hW; go_simp; simp [*]; done)⟩) hSs ?_
  try simp only [Act.put, List.setIfInBounds_toArray, List.set_cons_zero, List.set_cons_succ]
  refine wpAnyH_take (i := 9) (oi := ⟨some 37, _, _, _, _, _⟩) (v := .pointer (some ⟨g, o + 5, none⟩)) rfl (by kernel_rfl) (by kernel_rfl) (by kernel_rfl) (fun _ _ _ h => h) (.inl ⟨by kernel_rfl, fun W hW => by first | (obtain ⟨z0, z1, z2, z3, z4, z5, z6, z7, z8, z9, z10, z11⟩ := hW; go_simp; done) | (obtain ⟨z0, z1, z2, z3, z4, z5, z6, z7, z8, z9, z10, z11⟩ := hW; go_simp; omega) | (obtain ⟨z0, z1, z2, z3, z4, z5, z6, z7, z8, z9, z10, z11⟩ := hW; go_simp; simp [*]; done)⟩) hSs ?_
  try simp only [Act.put, List.setIfInBounds_toArray, List.set_cons_zero, List.set_cons_succ]
  refine wpAnyH_take (i := 10) (oi := ⟨some 38, _, _, _, _, _⟩) (v := .agg #[.int .i64 k2, .string s2, .int .i64 n2, .int .i64 a2, .slice A2 m2 c2]) rfl (by kernel_rfl) (by kernel_rfl) (by kernel_rfl) (fun _ _ _ h => h) (.inl ⟨by kernel_rfl, fun W hW => by first | (obtain ⟨z0, z1, z2, z3, z4, z5, z6, z7, z8, z9, z10, z11⟩ := hW; go_simp; done) | (obtain ⟨z0, z1, z2, z3, z4, z5, z6, z7, z8, z9, z10, z11⟩ := hW; go_simp; omega) | (obtain ⟨z0, z1, z2, z3, z4, z5, z6, z7, z8, z9, z10, z11⟩ := hW; go_simp; simp [*]; done)⟩) hSs ?_
  try simp only [Act.put, List.setIfInBounds_toArray, List.set_cons_zero, List.set_cons_succ]
  refine wpAnyH_ready (rs := [4]) (by kernel_rfl) (by simp) (AllReadyH.cons rfl (fun K hK => ?_) AllReadyH.nil)
  go_simp
  refine (HC.out _ hd0).mono ?_
  rintro e u1 ⟨rfl, hd1⟩
  refine hK.out _ _ (HS.out _ hd1) (fun hS1 => ?_)
  clear hK K
  try simp only [Act.put, List.setIfInBounds_toArray, List.set_cons_zero, List.set_cons_succ]
  refine wpAnyH_take (i := 5) (oi := ⟨some 33, _, _, _, _, _⟩) (v := .string ((⟨#[40]⟩ : ByteArray) ++ S)) rfl (by kernel_rfl) (by kernel_rfl) (by kernel_rfl) (fun _ _ _ h => h) (.inl ⟨by kernel_rfl, fun W hW => by first | (obtain ⟨z0, z1, z2, z3, z4, z5, z6, z7, z8, z9, z10, z11⟩ := hW; go_simp; done) | (obtain ⟨z0, z1, z2, z3, z4, z5, z6, z7, z8, z9, z10, z11⟩ := hW; go_simp; omega) | (obtain ⟨z0, z1, z2, z3, z4, z5, z6, z7, z8, z9, z10, z11⟩ := hW; go_simp; simp [*]; done)⟩) hS1 ?_
  try simp only [Act.put, List.setIfInBounds_toArray, List.set_cons_zero, List.set_cons_succ]
  refine wpAnyH_take (i := 6) (oi := ⟨some 34, _, _, _, _, _⟩) (v := .string (((⟨#[40]⟩ : ByteArray) ++ S) ++ (⟨#[41, 32]⟩ : ByteArray))) rfl (by kernel_rfl) (by kernel_rfl) (by kernel_rfl) (fun _ _ _ h => h) (.inl ⟨by kernel_rfl, fun W hW => by first | (obtain ⟨z0, z1, z2, z3, z4, z5, z6, z7, z8, z9, z10, z11⟩ := hW; go_simp; done) | (obtain ⟨z0, z1, z2, z3, z4, z5, z6, z7, z8, z9, z10, z11⟩ := hW; go_simp; omega) | (obtain ⟨z0, z1, z2, z3, z4, z5, z6, z7, z8, z9, z10, z11⟩ := hW; go_simp; simp [*]; done)⟩) hS1 ?_
  try simp only [Act.put, List.setIfInBounds_toArray, List.set_cons_zero, List.set_cons_succ]
  refine wpAnyH_ready (rs := [11]) (by kernel_rfl) (by simp) (AllReadyH.cons rfl (fun K hK => ?_) AllReadyH.nil)
  go_simp
  refine (HD.out _ hd1).mono ?_
  rintro e u2 ⟨rfl, hd2⟩
  refine hK.out _ _ (HS.out _ hd2) (fun hS2 => ?_)
  clear hK K
  try simp only [Act.put, List.setIfInBounds_toArray, List.set_cons_zero, List.set_cons_succ]
  refine wpAnyH_take (i := 12) (oi := ⟨some 40, _, _, _, _, _⟩) (v := .string ((((⟨#[40]⟩ : ByteArray) ++ S) ++ (⟨#[41, 32]⟩ : ByteArray)) ++ Z)) rfl (by kernel_rfl) (by kernel_rfl) (by kernel_rfl) (fun _ _ _ h => h) (.inl ⟨by kernel_rfl, fun W hW => by first | (obtain ⟨z0, z1, z2, z3, z4, z5, z6, z7, z8, z9, z10, z11⟩ := hW; go_simp; done) | (obtain ⟨z0, z1, z2, z3, z4, z5, z6, z7, z8, z9, z10, z11⟩ := hW; go_simp; omega) | (obtain ⟨z0, z1, z2, z3, z4, z5, z6, z7, z8, z9, z10, z11⟩ := hW; go_simp; simp [*]; done)⟩) hS2 ?_
  try simp only [Act.put, List.setIfInBounds_toArray, List.set_cons_zero, List.set_cons_succ]
  refine wpAnyH_take (i := 13) (oi := ⟨some 2, _, _, _, _, _⟩) (v := .string ((((⟨#[40]⟩ : ByteArray) ++ S) ++ (⟨#[41, 32]⟩ : ByteArray)) ++ Z)) rfl (by kernel_rfl) (by kernel_rfl) (by kernel_rfl) (fun _ _ _ h => h) (.inl ⟨by kernel_rfl, fun W hW => by kernel_rfl⟩) hS2 ?_
  try simp only [Act.put, List.setIfInBounds_toArray, List.set_cons_zero, List.set_cons_succ]
  refine wpAnyH_done (by kernel_rfl) ?_ _
  go_wp2_with fail
  go_ret
  refine ⟨?_, HZ.out.trans (hd2.mono (Nat.le_of_lt HLS.out))⟩
  show Ending.returned (Value.string (_ ++ Z)) = _
  congr 2
  apply ByteArray.ext
  apply Array.toList_inj.1
  simp [eS2, eZ2]
set_option maxHeartbeats 4000000 in
theorem rtx_app (n a : Int) (s : ByteArray) (p q : Tr) (A : Option Addr) (c : Nat) (w : World) (hsz : s.size ≤ 1000000) (hpk : ¬ p.kind = 6) (hI : TIn w Any (.node 3 s n a [p, q]) A) (hlen : (showT (.node 3 s n a [p, q])).length ≤ 1000000)
    (hv1 : LvOk p) (hv2 : LvOk q) (hp : ∀ u ∈ [p, q], ∀ A' c', TIn w Any u A' → RTx w u A' c') : RTx w (.node 3 s n a [p, q]) A c := by
  intro W hW
  rw [show_app, if_neg hpk] at hlen ⊢
  have e1 := len_parS (4) (levelT p, showT p)
  have e2 := len_parS (5) (levelT q, showT q)
  have hz1 : s.size ≤ 1000000 ∧ (showT p).length ≤ 1000000 ∧ (showT q).length ≤ 1000000 := by
    have h9 : s.data.toList.length = s.size := by simp
    simp only [List.length_append, List.length_cons, List.length_nil] at hlen
    simp only at e1 e2
    have h8 := hlen
    refine ⟨hsz, ?_, ?_⟩ <;> omega
  obtain ⟨hz2, hz3, hz4⟩ := hz1
  obtain ⟨g, o, k1, s1, n1, a1, A1, m1, c1, rfl, hgW, q0, q1, q2, q3, q4, hk1, HX, HXA⟩ := rpart2 hI 0 (by simp [Tr.parts]) hW hp hv1 hz3
  obtain ⟨g2, o2, k2, s2, n2, a2, A2, m2, c2, e2', -, r0, r1, r2, r3, r4, -, HY, HYA⟩ := rpart2 hI 1 (by simp [Tr.parts]) hW hp hv2 hz4
  simp only [Option.some.injEq, Addr.mk.injEq, and_true] at e2'
  obtain ⟨rfl, rfl⟩ := e2'
  simp only [Tr.parts, List.getElem_cons_zero, List.getElem_cons_succ] at HX HY HXA HYA hk1
  simp only [tv, Tr.kind, Tr.name, Tr.n, Tr.place, Tr.parts, List.length_cons, List.length_nil]
  simp only [Nat.zero_mul, Nat.one_mul, Nat.add_zero, Nat.add_assoc, Nat.reduceAdd] at q0 q1 q2 q3 q4 r0 r1 r2 r3 r4 ⊢
  rw [← hk1] at hpk
  have hq6 : (k1 == 6) = false := by simpa using hpk
  have HX := HXA 4
  have HY := HYA 5
  obtain ⟨T, hT⟩ : ∃ T, T = parS 4 (levelT p, showT p) := ⟨_, rfl⟩
  obtain ⟨U, hU⟩ : ∃ T, T = parS 5 (levelT q, showT q) := ⟨_, rfl⟩
  rw [← hT] at e1 HX ⊢
  rw [← hU] at e2 HY ⊢
  have hz5 : T.length ≤ 1000002 ∧ U.length ≤ 1000002 := by
    simp only at e1 e2
    omega
  clear hT hU hp hI e1 e2 HXA HYA hv1 hv2 hz3 hz4 hlen
  obtain ⟨S, eS2, eS3, hS⟩ := str_of T
  obtain ⟨Z, eZ2, eZ3, hZ⟩ := str_of U
  simp only [AxV, hS] at HX
  simp only [AxV, hZ] at HY
  obtain ⟨O, hO⟩ : ∃ O, O = Obj.cells #[.int .i64 3, .string s, .int .i64 n, .int .i64 a, .slice (some ⟨g, o, none⟩) 2 (capF 2 c)] 24 := ⟨_, rfl⟩
  have hL : Lies (W.alloc O) W.heap.size 24 #[.int .i64 3, .string s, .int .i64 n, .int .i64 a, .slice (some ⟨g, o, none⟩) 2 (capF 2 c)] := by
    rw [hO]
    exact Lies.new _ _ _
  have hz : Below W.heap.size W (W.alloc O) := (Below.refl _ W).alloc (Nat.le_refl _) _
  have hls : W.heap.size < (W.alloc O).heap.size := hL.lt
  have hcz : ∀ V, Below (W.alloc O).heap.size (W.alloc O) V → (fun V' : World => (V'.cell? ⟨W.heap.size, 1, none⟩ = some (.string s) ∧ V'.cell? ⟨W.heap.size, 4, none⟩ = some (.slice (some ⟨g, o, none⟩) 2 (capF 2 c)) ∧ V'.cell? ⟨g, o, none⟩ = some (.int .i64 k1) ∧ V'.cell? ⟨g, o + 1, none⟩ = some (.string s1) ∧ V'.cell? ⟨g, o + 2, none⟩ = some (.int .i64 n1) ∧ V'.cell? ⟨g, o + 3, none⟩ = some (.int .i64 a1) ∧ V'.cell? ⟨g, o + 4, none⟩ = some (.slice A1 m1 c1) ∧ V'.cell? ⟨g, o + 5, none⟩ = some (.int .i64 k2) ∧ V'.cell? ⟨g, o + 6, none⟩ = some (.string s2) ∧ V'.cell? ⟨g, o + 7, none⟩ = some (.int .i64 n2) ∧ V'.cell? ⟨g, o + 8, none⟩ = some (.int .i64 a2) ∧ V'.cell? ⟨g, o + 9, none⟩ = some (.slice A2 m2 c2))) V := by
    intro V h
    have h1 := hL.below h hls
    have h2 := hz.trans (h.mono (Nat.le_of_lt hls))
    exact ⟨h1.cell 1, h1.cell 4, (h2.cell hgW).trans q0, (h2.cell hgW).trans q1, (h2.cell hgW).trans q2, (h2.cell hgW).trans q3, (h2.cell hgW).trans q4, (h2.cell hgW).trans r0, (h2.cell hgW).trans r1, (h2.cell hgW).trans r2, (h2.cell hgW).trans r3, (h2.cell hgW).trans r4⟩
  have HS := Lib.hid hcz
  
  
  clear hcz hk1
  go_enter Tryz.func34, Tryz.ntmps34
  obtain ⟨q5, -⟩ := HS.out _ (Below.refl _ _)
  have q6 := (HS.out _ (Below.refl _ _)).2.1
  have q7 := (HS.out _ (Below.refl _ _)).2.2.1
  rw [hO] at q5 q6 q7
  go_upto_region 7 with fail
  rw [← hO]
  obtain ⟨W5, hW5⟩ : ∃ X, X = W.alloc O := ⟨_, rfl⟩
  rw [← hW5] at hz hls HS ⊢
  clear q5 q6 q7 hL
  have hd0 : Below W5.heap.size W5 W5.drew := (Below.refl _ W5).drew
  have HC := Lib.hid (fun X (h : Below W5.heap.size W5 X) => (HX X (hz.trans (h.mono (Nat.le_of_lt hls)))).mono fun e w' q => (⟨q.1, below_step h q.2⟩ : _ ∧ Below W5.heap.size W5 w'))
  have HD := Lib.hid (fun X (h : Below W5.heap.size W5 X) => (HY X (hz.trans (h.mono (Nat.le_of_lt hls)))).mono fun e w' q => (⟨q.1, below_step h q.2⟩ : _ ∧ Below W5.heap.size W5 w'))
  have hS0 := HS.out _ (Below.refl _ W5)
  have HZ := Lib.hid hz
  have HLS := Lib.hid hls
  have hb0 : ¬ 9223372036854775807 < S.size + 1 := by omega
  have hb1 : ¬ 9223372036854775807 < S.size + 1 + Z.size := by omega
  clear hz hls HX HY q0 q1 q2 q3 q4 r0 r1 r2 r3 r4 hS hZ hW hgW hz2 hz5 eS3 eZ3 hW5 hO hsz hq6
  refine wp_region_held_drew (S := (fun V' : World => (V'.cell? ⟨W.heap.size, 1, none⟩ = some (.string s) ∧ V'.cell? ⟨W.heap.size, 4, none⟩ = some (.slice (some ⟨g, o, none⟩) 2 (capF 2 c)) ∧ V'.cell? ⟨g, o, none⟩ = some (.int .i64 k1) ∧ V'.cell? ⟨g, o + 1, none⟩ = some (.string s1) ∧ V'.cell? ⟨g, o + 2, none⟩ = some (.int .i64 n1) ∧ V'.cell? ⟨g, o + 3, none⟩ = some (.int .i64 a1) ∧ V'.cell? ⟨g, o + 4, none⟩ = some (.slice A1 m1 c1) ∧ V'.cell? ⟨g, o + 5, none⟩ = some (.int .i64 k2) ∧ V'.cell? ⟨g, o + 6, none⟩ = some (.string s2) ∧ V'.cell? ⟨g, o + 7, none⟩ = some (.int .i64 n2) ∧ V'.cell? ⟨g, o + 8, none⟩ = some (.int .i64 a2) ∧ V'.cell? ⟨g, o + 9, none⟩ = some (.slice A2 m2 c2)))) rfl hS0 (fun hSs => ?_)
  change wpAnyH _ _ _ _ _ 13 (Array.replicate 13 false) _ _
  refine wpAnyH_take (i := 0) (oi := ⟨some 41, _, _, _, _, _⟩) (v := .pointer (some ⟨W.heap.size, 4, none⟩)) rfl (by kernel_rfl) (by kernel_rfl) (by kernel_rfl) (fun _ _ _ h => h) (.inl ⟨by kernel_rfl, fun W hW => by first | (obtain ⟨z0, z1, z2, z3, z4, z5, z6, z7, z8, z9, z10, z11⟩ := hW; go_simp; done) | (obtain ⟨z0, z1, z2, z3, z4, z5, z6, z7, z8, z9, z10, z11⟩ := hW; go_simp; omega) | (obtain ⟨z0, z1, z2, z3, z4, z5, z6, z7, z8, z9, z10, z11⟩ := hW; go_simp; simp [*]; done)⟩) hSs ?_
  try simp only [Act.put, List.setIfInBounds_toArray, List.set_cons_zero, List.set_cons_succ]
  refine wpAnyH_take (i := 1) (oi := ⟨some 42, _, _, _, _, _⟩) (v := .slice (some ⟨g, o, none⟩) 2 (capF 2 c)) rfl (by kernel_rfl) (by kernel_rfl) (by kernel_rfl) (fun _ _ _ h => h) (.inl ⟨by kernel_rfl, fun W hW => by first | (obtain ⟨z0, z1, z2, z3, z4, z5, z6, z7, z8, z9, z10, z11⟩ := hW; go_simp; done) | (obtain ⟨z0, z1, z2, z3, z4, z5, z6, z7, z8, z9, z10, z11⟩ := hW; go_simp; omega) | (obtain ⟨z0, z1, z2, z3, z4, z5, z6, z7, z8, z9, z10, z11⟩ := hW; go_simp; simp [*]; done)⟩) hSs ?_
  try simp only [Act.put, List.setIfInBounds_toArray, List.set_cons_zero, List.set_cons_succ]
  refine wpAnyH_take (i := 2) (oi := ⟨some 43, _, _, _, _, _⟩) (v := .pointer (some ⟨g, o, none⟩)) rfl (by kernel_rfl) (by kernel_rfl) (by kernel_rfl) (fun _ _ _ h => h) (.inl ⟨by kernel_rfl, fun W hW => by first | (obtain ⟨z0, z1, z2, z3, z4, z5, z6, z7, z8, z9, z10, z11⟩ := hW; go_simp; done) | (obtain ⟨z0, z1, z2, z3, z4, z5, z6, z7, z8, z9, z10, z11⟩ := hW; go_simp; omega) | (obtain ⟨z0, z1, z2, z3, z4, z5, z6, z7, z8, z9, z10, z11⟩ := hW; go_simp; simp [*]; done)⟩) hSs ?_
  try simp only [Act.put, List.setIfInBounds_toArray, List.set_cons_zero, List.set_cons_succ]
  refine wpAnyH_take (i := 3) (oi := ⟨some 44, _, _, _, _, _⟩) (v := .agg #[.int .i64 k1, .string s1, .int .i64 n1, .int .i64 a1, .slice A1 m1 c1]) rfl (by kernel_rfl) (by kernel_rfl) (by kernel_rfl) (fun _ _ _ h => h) (.inl ⟨by kernel_rfl, fun W hW => by first | (obtain ⟨z0, z1, z2, z3, z4, z5, z6, z7, z8, z9, z10, z11⟩ := hW; go_simp; done) | (obtain ⟨z0, z1, z2, z3, z4, z5, z6, z7, z8, z9, z10, z11⟩ := hW; go_simp; omega) | (obtain ⟨z0, z1, z2, z3, z4, z5, z6, z7, z8, z9, z10, z11⟩ := hW; go_simp; simp [*]; done)⟩) hSs ?_
  try simp only [Act.put, List.setIfInBounds_toArray, List.set_cons_zero, List.set_cons_succ]
  refine wpAnyH_take (i := 6) (oi := ⟨some 47, _, _, _, _, _⟩) (v := .pointer (some ⟨W.heap.size, 4, none⟩)) rfl (by kernel_rfl) (by kernel_rfl) (by kernel_rfl) (fun _ _ _ h => h) (.inl ⟨by kernel_rfl, fun W hW => by first | (obtain ⟨z0, z1, z2, z3, z4, z5, z6, z7, z8, z9, z10, z11⟩ := hW; go_simp; done) | (obtain ⟨z0, z1, z2, z3, z4, z5, z6, z7, z8, z9, z10, z11⟩ := hW; go_simp; omega) | (obtain ⟨z0, z1, z2, z3, z4, z5, z6, z7, z8, z9, z10, z11⟩ := hW; go_simp; simp [*]; done)⟩) hSs ?_
  try simp only [Act.put, List.setIfInBounds_toArray, List.set_cons_zero, List.set_cons_succ]
  refine wpAnyH_take (i := 7) (oi := ⟨some 48, _, _, _, _, _⟩) (v := .slice (some ⟨g, o, none⟩) 2 (capF 2 c)) rfl (by kernel_rfl) (by kernel_rfl) (by kernel_rfl) (fun _ _ _ h => h) (.inl ⟨by kernel_rfl, fun W hW => by first | (obtain ⟨z0, z1, z2, z3, z4, z5, z6, z7, z8, z9, z10, z11⟩ := hW; go_simp; done) | (obtain ⟨z0, z1, z2, z3, z4, z5, z6, z7, z8, z9, z10, z11⟩ := hW; go_simp; omega) | (obtain ⟨z0, z1, z2, z3, z4, z5, z6, z7, z8, z9, z10, z11⟩ := hW; go_simp; simp [*]; done)⟩) hSs ?_
  try simp only [Act.put, List.setIfInBounds_toArray, List.set_cons_zero, List.set_cons_succ]
  refine wpAnyH_take (i := 8) (oi := ⟨some 49, _, _, _, _, _⟩) (v := .pointer (some ⟨g, o + 5, none⟩)) rfl (by kernel_rfl) (by kernel_rfl) (by kernel_rfl) (fun _ _ _ h => h) (.inl ⟨by kernel_rfl, fun W hW => by first | (obtain ⟨z0, z1, z2, z3, z4, z5, z6, z7, z8, z9, z10, z11⟩ := hW; go_simp; done) | (obtain ⟨z0, z1, z2, z3, z4, z5, z6, z7, z8, z9, z10, z11⟩ := hW; go_simp; omega) | (obtain ⟨z0, z1, z2, z3, z4, z5, z6, z7, z8, z9, z10, z11⟩ := hW; go_simp; simp [*]; done)⟩) hSs ?_
  try simp only [Act.put, List.setIfInBounds_toArray, List.set_cons_zero, List.set_cons_succ]
  refine wpAnyH_take (i := 9) (oi := ⟨some 50, _, _, _, _, _⟩) (v := .agg #[.int .i64 k2, .string s2, .int .i64 n2, .int .i64 a2, .slice A2 m2 c2]) rfl (by kernel_rfl) (by kernel_rfl) (by kernel_rfl) (fun _ _ _ h => h) (.inl ⟨by kernel_rfl, fun W hW => by first | (obtain ⟨z0, z1, z2, z3, z4, z5, z6, z7, z8, z9, z10, z11⟩ := hW; go_simp; done) | (obtain ⟨z0, z1, z2, z3, z4, z5, z6, z7, z8, z9, z10, z11⟩ := hW; go_simp; omega) | (obtain ⟨z0, z1, z2, z3, z4, z5, z6, z7, z8, z9, z10, z11⟩ := hW; go_simp; simp [*]; done)⟩) hSs ?_
  try simp only [Act.put, List.setIfInBounds_toArray, List.set_cons_zero, List.set_cons_succ]
  refine wpAnyH_ready (rs := [4]) (by kernel_rfl) (by simp) (AllReadyH.cons rfl (fun K hK => ?_) AllReadyH.nil)
  go_simp
  refine (HC.out _ hd0).mono ?_
  rintro e u1 ⟨rfl, hd1⟩
  refine hK.out _ _ (HS.out _ hd1) (fun hS1 => ?_)
  clear hK K
  try simp only [Act.put, List.setIfInBounds_toArray, List.set_cons_zero, List.set_cons_succ]
  refine wpAnyH_take (i := 5) (oi := ⟨some 46, _, _, _, _, _⟩) (v := .string (S ++ (⟨#[32]⟩ : ByteArray))) rfl (by kernel_rfl) (by kernel_rfl) (by kernel_rfl) (fun _ _ _ h => h) (.inl ⟨by kernel_rfl, fun W hW => by first | (obtain ⟨z0, z1, z2, z3, z4, z5, z6, z7, z8, z9, z10, z11⟩ := hW; go_simp; done) | (obtain ⟨z0, z1, z2, z3, z4, z5, z6, z7, z8, z9, z10, z11⟩ := hW; go_simp; omega) | (obtain ⟨z0, z1, z2, z3, z4, z5, z6, z7, z8, z9, z10, z11⟩ := hW; go_simp; simp [*]; done)⟩) hS1 ?_
  try simp only [Act.put, List.setIfInBounds_toArray, List.set_cons_zero, List.set_cons_succ]
  refine wpAnyH_ready (rs := [10]) (by kernel_rfl) (by simp) (AllReadyH.cons rfl (fun K hK => ?_) AllReadyH.nil)
  go_simp
  refine (HD.out _ hd1).mono ?_
  rintro e u2 ⟨rfl, hd2⟩
  refine hK.out _ _ (HS.out _ hd2) (fun hS2 => ?_)
  clear hK K
  try simp only [Act.put, List.setIfInBounds_toArray, List.set_cons_zero, List.set_cons_succ]
  refine wpAnyH_take (i := 11) (oi := ⟨some 52, _, _, _, _, _⟩) (v := .string ((S ++ (⟨#[32]⟩ : ByteArray)) ++ Z)) rfl (by kernel_rfl) (by kernel_rfl) (by kernel_rfl) (fun _ _ _ h => h) (.inl ⟨by kernel_rfl, fun W hW => by first | (obtain ⟨z0, z1, z2, z3, z4, z5, z6, z7, z8, z9, z10, z11⟩ := hW; go_simp; done) | (obtain ⟨z0, z1, z2, z3, z4, z5, z6, z7, z8, z9, z10, z11⟩ := hW; go_simp; omega) | (obtain ⟨z0, z1, z2, z3, z4, z5, z6, z7, z8, z9, z10, z11⟩ := hW; go_simp; simp [*]; done)⟩) hS2 ?_
  try simp only [Act.put, List.setIfInBounds_toArray, List.set_cons_zero, List.set_cons_succ]
  refine wpAnyH_take (i := 12) (oi := ⟨some 2, _, _, _, _, _⟩) (v := .string ((S ++ (⟨#[32]⟩ : ByteArray)) ++ Z)) rfl (by kernel_rfl) (by kernel_rfl) (by kernel_rfl) (fun _ _ _ h => h) (.inl ⟨by kernel_rfl, fun W hW => by kernel_rfl⟩) hS2 ?_
  try simp only [Act.put, List.setIfInBounds_toArray, List.set_cons_zero, List.set_cons_succ]
  refine wpAnyH_done (by kernel_rfl) ?_ _
  go_wp2_with fail
  go_ret
  refine ⟨?_, HZ.out.trans (hd2.mono (Nat.le_of_lt HLS.out))⟩
  show Ending.returned (Value.string (_ ++ Z)) = _
  congr 2
  apply ByteArray.ext
  apply Array.toList_inj.1
  simp [eS2, eZ2]
set_option maxHeartbeats 4000000 in
theorem rtx_op1 (n a : Int) (s : ByteArray) (p q : Tr) (A : Option Addr) (c : Nat) (w : World) (hlv : levelR 10 s.data.toList 2 = 1) (hlv2 : levelS s.data.toList = 1) (hI : TIn w Any (.node 10 s n a [p, q]) A) (hlen : (showT (.node 10 s n a [p, q])).length ≤ 1000000)
    (hv1 : LvOk p) (hv2 : LvOk q) (hp : ∀ u ∈ [p, q], ∀ A' c', TIn w Any u A' → RTx w u A' c') : RTx w (.node 10 s n a [p, q]) A c := by
  intro W hW
  rw [show_op, hlv2] at hlen ⊢
  rw [show (if (1 : Int) = 1 then 2 else (1 : Int)) = 2 from by decide, show (1 : Int) + 1 = 2 from rfl] at hlen ⊢
  have e1 := len_parS (2) (levelT p, showT p)
  have e2 := len_parS (2) (levelT q, showT q)
  have hz1 : s.size ≤ 1000000 ∧ (showT p).length ≤ 1000000 ∧ (showT q).length ≤ 1000000 := by
    have h9 : s.data.toList.length = s.size := by simp
    simp only [List.length_append, List.length_cons, List.length_nil] at hlen
    simp only at e1 e2
    have h8 := hlen
    omega
  obtain ⟨hz2, hz3, hz4⟩ := hz1
  obtain ⟨g, o, k1, s1, n1, a1, A1, m1, c1, rfl, hgW, q0, q1, q2, q3, q4, hk1, HX, HXA⟩ := rpart2 hI 0 (by simp [Tr.parts]) hW hp hv1 hz3
  obtain ⟨g2, o2, k2, s2, n2, a2, A2, m2, c2, e2', -, r0, r1, r2, r3, r4, -, HY, HYA⟩ := rpart2 hI 1 (by simp [Tr.parts]) hW hp hv2 hz4
  simp only [Option.some.injEq, Addr.mk.injEq, and_true] at e2'
  obtain ⟨rfl, rfl⟩ := e2'
  simp only [Tr.parts, List.getElem_cons_zero, List.getElem_cons_succ] at HX HY HXA HYA hk1
  simp only [tv, Tr.kind, Tr.name, Tr.n, Tr.place, Tr.parts, List.length_cons, List.length_nil]
  simp only [Nat.zero_mul, Nat.one_mul, Nat.add_zero, Nat.add_assoc, Nat.reduceAdd] at q0 q1 q2 q3 q4 r0 r1 r2 r3 r4 ⊢
  skip
  have HX := HXA 2
  have HY := HYA 2
  obtain ⟨T, hT⟩ : ∃ T, T = parS 2 (levelT p, showT p) := ⟨_, rfl⟩
  obtain ⟨U, hU⟩ : ∃ T, T = parS 2 (levelT q, showT q) := ⟨_, rfl⟩
  rw [← hT] at e1 HX ⊢
  rw [← hU] at e2 HY ⊢
  have hz5 : T.length ≤ 1000002 ∧ U.length ≤ 1000002 := by
    simp only at e1 e2
    omega
  clear hT hU hp hI e1 e2 HXA HYA hv1 hv2 hz3 hz4 hlen
  obtain ⟨S, eS2, eS3, hS⟩ := str_of T
  obtain ⟨Z, eZ2, eZ3, hZ⟩ := str_of U
  simp only [AxV, hS] at HX
  simp only [AxV, hZ] at HY
  obtain ⟨O, hO⟩ : ∃ O, O = Obj.cells #[.int .i64 10, .string s, .int .i64 n, .int .i64 a, .slice (some ⟨g, o, none⟩) 2 (capF 2 c)] 24 := ⟨_, rfl⟩
  have hL : Lies (W.alloc O) W.heap.size 24 #[.int .i64 10, .string s, .int .i64 n, .int .i64 a, .slice (some ⟨g, o, none⟩) 2 (capF 2 c)] := by
    rw [hO]
    exact Lies.new _ _ _
  have hz : Below W.heap.size W (W.alloc O) := (Below.refl _ W).alloc (Nat.le_refl _) _
  have hls : W.heap.size < (W.alloc O).heap.size := hL.lt
  have hcz : ∀ V, Below (W.alloc O).heap.size (W.alloc O) V → (fun V' : World => (V'.cell? ⟨W.heap.size, 1, none⟩ = some (.string s) ∧ V'.cell? ⟨W.heap.size, 4, none⟩ = some (.slice (some ⟨g, o, none⟩) 2 (capF 2 c)) ∧ V'.cell? ⟨g, o, none⟩ = some (.int .i64 k1) ∧ V'.cell? ⟨g, o + 1, none⟩ = some (.string s1) ∧ V'.cell? ⟨g, o + 2, none⟩ = some (.int .i64 n1) ∧ V'.cell? ⟨g, o + 3, none⟩ = some (.int .i64 a1) ∧ V'.cell? ⟨g, o + 4, none⟩ = some (.slice A1 m1 c1) ∧ V'.cell? ⟨g, o + 5, none⟩ = some (.int .i64 k2) ∧ V'.cell? ⟨g, o + 6, none⟩ = some (.string s2) ∧ V'.cell? ⟨g, o + 7, none⟩ = some (.int .i64 n2) ∧ V'.cell? ⟨g, o + 8, none⟩ = some (.int .i64 a2) ∧ V'.cell? ⟨g, o + 9, none⟩ = some (.slice A2 m2 c2))) V := by
    intro V h
    have h1 := hL.below h hls
    have h2 := hz.trans (h.mono (Nat.le_of_lt hls))
    exact ⟨h1.cell 1, h1.cell 4, (h2.cell hgW).trans q0, (h2.cell hgW).trans q1, (h2.cell hgW).trans q2, (h2.cell hgW).trans q3, (h2.cell hgW).trans q4, (h2.cell hgW).trans r0, (h2.cell hgW).trans r1, (h2.cell hgW).trans r2, (h2.cell hgW).trans r3, (h2.cell hgW).trans r4⟩
  have HS := Lib.hid hcz
  have HLV := Lib.hid (fun W1 => rlevel_any 10 n a s (some ⟨g, o, none⟩) 2 (capF 2 c) W1)
  rw [hlv] at HLV
  clear hcz hlv hlv2 hk1
  go_enter Tryz.func34, Tryz.ntmps34
  go_wp2_with fail
  rw [← hO]
  refine (HLV.out _).mono ?_
  rintro e W5 ⟨rfl, hb5⟩
  have hz := hz.trans (hb5.mono (Nat.le_of_lt hls))
  have HS := Lib.hid (fun V' h => HS.out V' (below_step hb5 h))
  have hls : W.heap.size < W5.heap.size := Nat.lt_of_lt_of_le hls hb5.size
  clear hb5 hL hO HLV
  go_upto_region 18 with fail
  have hd0 : Below W5.heap.size W5 W5.drew := (Below.refl _ W5).drew
  have HC := Lib.hid (fun X (h : Below W5.heap.size W5 X) => (HX X (hz.trans (h.mono (Nat.le_of_lt hls)))).mono fun e w' q => (⟨q.1, below_step h q.2⟩ : _ ∧ Below W5.heap.size W5 w'))
  have HD := Lib.hid (fun X (h : Below W5.heap.size W5 X) => (HY X (hz.trans (h.mono (Nat.le_of_lt hls)))).mono fun e w' q => (⟨q.1, below_step h q.2⟩ : _ ∧ Below W5.heap.size W5 w'))
  have hS0 := HS.out _ (Below.refl _ W5)
  have HZ := Lib.hid hz
  have HLS := Lib.hid hls
  have hb0 : ¬ 9223372036854775807 < S.size + 1 := by omega
  have hb1 : ¬ 9223372036854775807 < S.size + 1 + s.size := by omega
  have hb2 : ¬ 9223372036854775807 < S.size + 1 + s.size + 1 := by omega
  have hb3 : ¬ 9223372036854775807 < S.size + 1 + s.size + 1 + Z.size := by omega
  clear hz hls HX HY q0 q1 q2 q3 q4 r0 r1 r2 r3 r4 hS hZ hW hgW hz2 hz5 eS3 eZ3
  refine wp_region_held_drew (S := (fun V' : World => (V'.cell? ⟨W.heap.size, 1, none⟩ = some (.string s) ∧ V'.cell? ⟨W.heap.size, 4, none⟩ = some (.slice (some ⟨g, o, none⟩) 2 (capF 2 c)) ∧ V'.cell? ⟨g, o, none⟩ = some (.int .i64 k1) ∧ V'.cell? ⟨g, o + 1, none⟩ = some (.string s1) ∧ V'.cell? ⟨g, o + 2, none⟩ = some (.int .i64 n1) ∧ V'.cell? ⟨g, o + 3, none⟩ = some (.int .i64 a1) ∧ V'.cell? ⟨g, o + 4, none⟩ = some (.slice A1 m1 c1) ∧ V'.cell? ⟨g, o + 5, none⟩ = some (.int .i64 k2) ∧ V'.cell? ⟨g, o + 6, none⟩ = some (.string s2) ∧ V'.cell? ⟨g, o + 7, none⟩ = some (.int .i64 n2) ∧ V'.cell? ⟨g, o + 8, none⟩ = some (.int .i64 a2) ∧ V'.cell? ⟨g, o + 9, none⟩ = some (.slice A2 m2 c2)))) rfl hS0 (fun hSs => ?_)
  change wpAnyH _ _ _ _ _ 21 (Array.replicate 21 false) _ _
  refine wpAnyH_take (i := 0) (oi := ⟨some 104, _, _, _, _, _⟩) (v := .pointer (some ⟨W.heap.size, 4, none⟩)) rfl (by kernel_rfl) (by kernel_rfl) (by kernel_rfl) (fun _ _ _ h => h) (.inl ⟨by kernel_rfl, fun W hW => by first | (obtain ⟨z0, z1, z2, z3, z4, z5, z6, z7, z8, z9, z10, z11⟩ := hW; go_simp; done) | (obtain ⟨z0, z1, z2, z3, z4, z5, z6, z7, z8, z9, z10, z11⟩ := hW; go_simp; omega) | (obtain ⟨z0, z1, z2, z3, z4, z5, z6, z7, z8, z9, z10, z11⟩ := hW; go_simp; simp [*]; done)⟩) hSs ?_
  try simp only [Act.put, List.setIfInBounds_toArray, List.set_cons_zero, List.set_cons_succ]
  refine wpAnyH_take (i := 1) (oi := ⟨some 105, _, _, _, _, _⟩) (v := .slice (some ⟨g, o, none⟩) 2 (capF 2 c)) rfl (by kernel_rfl) (by kernel_rfl) (by kernel_rfl) (fun _ _ _ h => h) (.inl ⟨by kernel_rfl, fun W hW => by first | (obtain ⟨z0, z1, z2, z3, z4, z5, z6, z7, z8, z9, z10, z11⟩ := hW; go_simp; done) | (obtain ⟨z0, z1, z2, z3, z4, z5, z6, z7, z8, z9, z10, z11⟩ := hW; go_simp; omega) | (obtain ⟨z0, z1, z2, z3, z4, z5, z6, z7, z8, z9, z10, z11⟩ := hW; go_simp; simp [*]; done)⟩) hSs ?_
  try simp only [Act.put, List.setIfInBounds_toArray, List.set_cons_zero, List.set_cons_succ]
  refine wpAnyH_take (i := 2) (oi := ⟨some 106, _, _, _, _, _⟩) (v := .pointer (some ⟨g, o, none⟩)) rfl (by kernel_rfl) (by kernel_rfl) (by kernel_rfl) (fun _ _ _ h => h) (.inl ⟨by kernel_rfl, fun W hW => by first | (obtain ⟨z0, z1, z2, z3, z4, z5, z6, z7, z8, z9, z10, z11⟩ := hW; go_simp; done) | (obtain ⟨z0, z1, z2, z3, z4, z5, z6, z7, z8, z9, z10, z11⟩ := hW; go_simp; omega) | (obtain ⟨z0, z1, z2, z3, z4, z5, z6, z7, z8, z9, z10, z11⟩ := hW; go_simp; simp [*]; done)⟩) hSs ?_
  try simp only [Act.put, List.setIfInBounds_toArray, List.set_cons_zero, List.set_cons_succ]
  refine wpAnyH_take (i := 3) (oi := ⟨some 107, _, _, _, _, _⟩) (v := .agg #[.int .i64 k1, .string s1, .int .i64 n1, .int .i64 a1, .slice A1 m1 c1]) rfl (by kernel_rfl) (by kernel_rfl) (by kernel_rfl) (fun _ _ _ h => h) (.inl ⟨by kernel_rfl, fun W hW => by first | (obtain ⟨z0, z1, z2, z3, z4, z5, z6, z7, z8, z9, z10, z11⟩ := hW; go_simp; done) | (obtain ⟨z0, z1, z2, z3, z4, z5, z6, z7, z8, z9, z10, z11⟩ := hW; go_simp; omega) | (obtain ⟨z0, z1, z2, z3, z4, z5, z6, z7, z8, z9, z10, z11⟩ := hW; go_simp; simp [*]; done)⟩) hSs ?_
  try simp only [Act.put, List.setIfInBounds_toArray, List.set_cons_zero, List.set_cons_succ]
  refine wpAnyH_take (i := 4) (oi := ⟨some 108, _, _, _, _, _⟩) (v := .int .i64 1) rfl (by kernel_rfl) (by kernel_rfl) (by kernel_rfl) (fun _ _ _ h => h) (.inl ⟨by kernel_rfl, fun W hW => by kernel_rfl⟩) hSs ?_
  try simp only [Act.put, List.setIfInBounds_toArray, List.set_cons_zero, List.set_cons_succ]
  refine wpAnyH_take (i := 5) (oi := ⟨some 109, _, _, _, _, _⟩) (v := .int .i64 2) rfl (by kernel_rfl) (by kernel_rfl) (by kernel_rfl) (fun _ _ _ h => h) (.inl ⟨by kernel_rfl, fun W hW => by first | (obtain ⟨z0, z1, z2, z3, z4, z5, z6, z7, z8, z9, z10, z11⟩ := hW; go_simp; done) | (obtain ⟨z0, z1, z2, z3, z4, z5, z6, z7, z8, z9, z10, z11⟩ := hW; go_simp; omega) | (obtain ⟨z0, z1, z2, z3, z4, z5, z6, z7, z8, z9, z10, z11⟩ := hW; go_simp; simp [*]; done)⟩) hSs ?_
  try simp only [Act.put, List.setIfInBounds_toArray, List.set_cons_zero, List.set_cons_succ]
  refine wpAnyH_take (i := 8) (oi := ⟨some 112, _, _, _, _, _⟩) (v := .pointer (some ⟨W.heap.size, 1, none⟩)) rfl (by kernel_rfl) (by kernel_rfl) (by kernel_rfl) (fun _ _ _ h => h) (.inl ⟨by kernel_rfl, fun W hW => by first | (obtain ⟨z0, z1, z2, z3, z4, z5, z6, z7, z8, z9, z10, z11⟩ := hW; go_simp; done) | (obtain ⟨z0, z1, z2, z3, z4, z5, z6, z7, z8, z9, z10, z11⟩ := hW; go_simp; omega) | (obtain ⟨z0, z1, z2, z3, z4, z5, z6, z7, z8, z9, z10, z11⟩ := hW; go_simp; simp [*]; done)⟩) hSs ?_
  try simp only [Act.put, List.setIfInBounds_toArray, List.set_cons_zero, List.set_cons_succ]
  refine wpAnyH_take (i := 9) (oi := ⟨some 113, _, _, _, _, _⟩) (v := .string s) rfl (by kernel_rfl) (by kernel_rfl) (by kernel_rfl) (fun _ _ _ h => h) (.inl ⟨by kernel_rfl, fun W hW => by first | (obtain ⟨z0, z1, z2, z3, z4, z5, z6, z7, z8, z9, z10, z11⟩ := hW; go_simp; done) | (obtain ⟨z0, z1, z2, z3, z4, z5, z6, z7, z8, z9, z10, z11⟩ := hW; go_simp; omega) | (obtain ⟨z0, z1, z2, z3, z4, z5, z6, z7, z8, z9, z10, z11⟩ := hW; go_simp; simp [*]; done)⟩) hSs ?_
  try simp only [Act.put, List.setIfInBounds_toArray, List.set_cons_zero, List.set_cons_succ]
  refine wpAnyH_take (i := 12) (oi := ⟨some 116, _, _, _, _, _⟩) (v := .pointer (some ⟨W.heap.size, 4, none⟩)) rfl (by kernel_rfl) (by kernel_rfl) (by kernel_rfl) (fun _ _ _ h => h) (.inl ⟨by kernel_rfl, fun W hW => by first | (obtain ⟨z0, z1, z2, z3, z4, z5, z6, z7, z8, z9, z10, z11⟩ := hW; go_simp; done) | (obtain ⟨z0, z1, z2, z3, z4, z5, z6, z7, z8, z9, z10, z11⟩ := hW; go_simp; omega) | (obtain ⟨z0, z1, z2, z3, z4, z5, z6, z7, z8, z9, z10, z11⟩ := hW; go_simp; simp [*]; done)⟩) hSs ?_
  try simp only [Act.put, List.setIfInBounds_toArray, List.set_cons_zero, List.set_cons_succ]
  refine wpAnyH_take (i := 13) (oi := ⟨some 117, _, _, _, _, _⟩) (v := .slice (some ⟨g, o, none⟩) 2 (capF 2 c)) rfl (by kernel_rfl) (by kernel_rfl) (by kernel_rfl) (fun _ _ _ h => h) (.inl ⟨by kernel_rfl, fun W hW => by first | (obtain ⟨z0, z1, z2, z3, z4, z5, z6, z7, z8, z9, z10, z11⟩ := hW; go_simp; done) | (obtain ⟨z0, z1, z2, z3, z4, z5, z6, z7, z8, z9, z10, z11⟩ := hW; go_simp; omega) | (obtain ⟨z0, z1, z2, z3, z4, z5, z6, z7, z8, z9, z10, z11⟩ := hW; go_simp; simp [*]; done)⟩) hSs ?_
  try simp only [Act.put, List.setIfInBounds_toArray, List.set_cons_zero, List.set_cons_succ]
  refine wpAnyH_take (i := 14) (oi := ⟨some 118, _, _, _, _, _⟩) (v := .pointer (some ⟨g, o + 5, none⟩)) rfl (by kernel_rfl) (by kernel_rfl) (by kernel_rfl) (fun _ _ _ h => h) (.inl ⟨by kernel_rfl, fun W hW => by first | (obtain ⟨z0, z1, z2, z3, z4, z5, z6, z7, z8, z9, z10, z11⟩ := hW; go_simp; done) | (obtain ⟨z0, z1, z2, z3, z4, z5, z6, z7, z8, z9, z10, z11⟩ := hW; go_simp; omega) | (obtain ⟨z0, z1, z2, z3, z4, z5, z6, z7, z8, z9, z10, z11⟩ := hW; go_simp; simp [*]; done)⟩) hSs ?_
  try simp only [Act.put, List.setIfInBounds_toArray, List.set_cons_zero, List.set_cons_succ]
  refine wpAnyH_take (i := 15) (oi := ⟨some 119, _, _, _, _, _⟩) (v := .agg #[.int .i64 k2, .string s2, .int .i64 n2, .int .i64 a2, .slice A2 m2 c2]) rfl (by kernel_rfl) (by kernel_rfl) (by kernel_rfl) (fun _ _ _ h => h) (.inl ⟨by kernel_rfl, fun W hW => by first | (obtain ⟨z0, z1, z2, z3, z4, z5, z6, z7, z8, z9, z10, z11⟩ := hW; go_simp; done) | (obtain ⟨z0, z1, z2, z3, z4, z5, z6, z7, z8, z9, z10, z11⟩ := hW; go_simp; omega) | (obtain ⟨z0, z1, z2, z3, z4, z5, z6, z7, z8, z9, z10, z11⟩ := hW; go_simp; simp [*]; done)⟩) hSs ?_
  try simp only [Act.put, List.setIfInBounds_toArray, List.set_cons_zero, List.set_cons_succ]
  refine wpAnyH_take (i := 16) (oi := ⟨some 120, _, _, _, _, _⟩) (v := .int .i64 1) rfl (by kernel_rfl) (by kernel_rfl) (by kernel_rfl) (fun _ _ _ h => h) (.inl ⟨by kernel_rfl, fun W hW => by kernel_rfl⟩) hSs ?_
  try simp only [Act.put, List.setIfInBounds_toArray, List.set_cons_zero, List.set_cons_succ]
  refine wpAnyH_take (i := 17) (oi := ⟨some 121, _, _, _, _, _⟩) (v := .int .i64 2) rfl (by kernel_rfl) (by kernel_rfl) (by kernel_rfl) (fun _ _ _ h => h) (.inl ⟨by kernel_rfl, fun W hW => by kernel_rfl⟩) hSs ?_
  try simp only [Act.put, List.setIfInBounds_toArray, List.set_cons_zero, List.set_cons_succ]
  refine wpAnyH_ready (rs := [6]) (by kernel_rfl) (by simp) (AllReadyH.cons rfl (fun K hK => ?_) AllReadyH.nil)
  go_simp
  refine (HC.out _ hd0).mono ?_
  rintro e u1 ⟨rfl, hd1⟩
  refine hK.out _ _ (HS.out _ hd1) (fun hS1 => ?_)
  clear hK K
  try simp only [Act.put, List.setIfInBounds_toArray, List.set_cons_zero, List.set_cons_succ]
  refine wpAnyH_take (i := 7) (oi := ⟨some 111, _, _, _, _, _⟩) (v := .string (S ++ (⟨#[32]⟩ : ByteArray))) rfl (by kernel_rfl) (by kernel_rfl) (by kernel_rfl) (fun _ _ _ h => h) (.inl ⟨by kernel_rfl, fun W hW => by first | (obtain ⟨z0, z1, z2, z3, z4, z5, z6, z7, z8, z9, z10, z11⟩ := hW; go_simp; done) | (obtain ⟨z0, z1, z2, z3, z4, z5, z6, z7, z8, z9, z10, z11⟩ := hW; go_simp; omega) | (obtain ⟨z0, z1, z2, z3, z4, z5, z6, z7, z8, z9, z10, z11⟩ := hW; go_simp; simp [*]; done)⟩) hS1 ?_
  try simp only [Act.put, List.setIfInBounds_toArray, List.set_cons_zero, List.set_cons_succ]
  refine wpAnyH_take (i := 10) (oi := ⟨some 114, _, _, _, _, _⟩) (v := .string ((S ++ (⟨#[32]⟩ : ByteArray)) ++ s)) rfl (by kernel_rfl) (by kernel_rfl) (by kernel_rfl) (fun _ _ _ h => h) (.inl ⟨by kernel_rfl, fun W hW => by first | (obtain ⟨z0, z1, z2, z3, z4, z5, z6, z7, z8, z9, z10, z11⟩ := hW; go_simp; done) | (obtain ⟨z0, z1, z2, z3, z4, z5, z6, z7, z8, z9, z10, z11⟩ := hW; go_simp; omega) | (obtain ⟨z0, z1, z2, z3, z4, z5, z6, z7, z8, z9, z10, z11⟩ := hW; go_simp; simp [*]; done)⟩) hS1 ?_
  try simp only [Act.put, List.setIfInBounds_toArray, List.set_cons_zero, List.set_cons_succ]
  refine wpAnyH_take (i := 11) (oi := ⟨some 115, _, _, _, _, _⟩) (v := .string (((S ++ (⟨#[32]⟩ : ByteArray)) ++ s) ++ (⟨#[32]⟩ : ByteArray))) rfl (by kernel_rfl) (by kernel_rfl) (by kernel_rfl) (fun _ _ _ h => h) (.inl ⟨by kernel_rfl, fun W hW => by first | (obtain ⟨z0, z1, z2, z3, z4, z5, z6, z7, z8, z9, z10, z11⟩ := hW; go_simp; done) | (obtain ⟨z0, z1, z2, z3, z4, z5, z6, z7, z8, z9, z10, z11⟩ := hW; go_simp; omega) | (obtain ⟨z0, z1, z2, z3, z4, z5, z6, z7, z8, z9, z10, z11⟩ := hW; go_simp; simp [*]; done)⟩) hS1 ?_
  try simp only [Act.put, List.setIfInBounds_toArray, List.set_cons_zero, List.set_cons_succ]
  refine wpAnyH_ready (rs := [18]) (by kernel_rfl) (by simp) (AllReadyH.cons rfl (fun K hK => ?_) AllReadyH.nil)
  go_simp
  refine (HD.out _ hd1).mono ?_
  rintro e u2 ⟨rfl, hd2⟩
  refine hK.out _ _ (HS.out _ hd2) (fun hS2 => ?_)
  clear hK K
  try simp only [Act.put, List.setIfInBounds_toArray, List.set_cons_zero, List.set_cons_succ]
  refine wpAnyH_take (i := 19) (oi := ⟨some 123, _, _, _, _, _⟩) (v := .string ((((S ++ (⟨#[32]⟩ : ByteArray)) ++ s) ++ (⟨#[32]⟩ : ByteArray)) ++ Z)) rfl (by kernel_rfl) (by kernel_rfl) (by kernel_rfl) (fun _ _ _ h => h) (.inl ⟨by kernel_rfl, fun W hW => by first | (obtain ⟨z0, z1, z2, z3, z4, z5, z6, z7, z8, z9, z10, z11⟩ := hW; go_simp; done) | (obtain ⟨z0, z1, z2, z3, z4, z5, z6, z7, z8, z9, z10, z11⟩ := hW; go_simp; omega) | (obtain ⟨z0, z1, z2, z3, z4, z5, z6, z7, z8, z9, z10, z11⟩ := hW; go_simp; simp [*]; done)⟩) hS2 ?_
  try simp only [Act.put, List.setIfInBounds_toArray, List.set_cons_zero, List.set_cons_succ]
  refine wpAnyH_take (i := 20) (oi := ⟨some 2, _, _, _, _, _⟩) (v := .string ((((S ++ (⟨#[32]⟩ : ByteArray)) ++ s) ++ (⟨#[32]⟩ : ByteArray)) ++ Z)) rfl (by kernel_rfl) (by kernel_rfl) (by kernel_rfl) (fun _ _ _ h => h) (.inl ⟨by kernel_rfl, fun W hW => by kernel_rfl⟩) hS2 ?_
  try simp only [Act.put, List.setIfInBounds_toArray, List.set_cons_zero, List.set_cons_succ]
  refine wpAnyH_done (by kernel_rfl) ?_ _
  go_wp2_with fail
  go_ret
  refine ⟨?_, HZ.out.trans (hd2.mono (Nat.le_of_lt HLS.out))⟩
  show Ending.returned (Value.string (_ ++ Z)) = _
  congr 2
  apply ByteArray.ext
  apply Array.toList_inj.1
  simp [eS2, eZ2]
set_option maxHeartbeats 4000000 in
theorem rtx_op2 (n a : Int) (s : ByteArray) (p q : Tr) (A : Option Addr) (c : Nat) (w : World) (hlv : levelR 10 s.data.toList 2 = 2) (hlv2 : levelS s.data.toList = 2) (hI : TIn w Any (.node 10 s n a [p, q]) A) (hlen : (showT (.node 10 s n a [p, q])).length ≤ 1000000)
    (hv1 : LvOk p) (hv2 : LvOk q) (hp : ∀ u ∈ [p, q], ∀ A' c', TIn w Any u A' → RTx w u A' c') : RTx w (.node 10 s n a [p, q]) A c := by
  intro W hW
  rw [show_op, hlv2] at hlen ⊢
  rw [show (if (2 : Int) = 1 then 2 else (2 : Int)) = 2 from by decide, show (2 : Int) + 1 = 3 from rfl] at hlen ⊢
  have e1 := len_parS (2) (levelT p, showT p)
  have e2 := len_parS (3) (levelT q, showT q)
  have hz1 : s.size ≤ 1000000 ∧ (showT p).length ≤ 1000000 ∧ (showT q).length ≤ 1000000 := by
    have h9 : s.data.toList.length = s.size := by simp
    simp only [List.length_append, List.length_cons, List.length_nil] at hlen
    simp only at e1 e2
    have h8 := hlen
    omega
  obtain ⟨hz2, hz3, hz4⟩ := hz1
  obtain ⟨g, o, k1, s1, n1, a1, A1, m1, c1, rfl, hgW, q0, q1, q2, q3, q4, hk1, HX, HXA⟩ := rpart2 hI 0 (by simp [Tr.parts]) hW hp hv1 hz3
  obtain ⟨g2, o2, k2, s2, n2, a2, A2, m2, c2, e2', -, r0, r1, r2, r3, r4, -, HY, HYA⟩ := rpart2 hI 1 (by simp [Tr.parts]) hW hp hv2 hz4
  simp only [Option.some.injEq, Addr.mk.injEq, and_true] at e2'
  obtain ⟨rfl, rfl⟩ := e2'
  simp only [Tr.parts, List.getElem_cons_zero, List.getElem_cons_succ] at HX HY HXA HYA hk1
  simp only [tv, Tr.kind, Tr.name, Tr.n, Tr.place, Tr.parts, List.length_cons, List.length_nil]
  simp only [Nat.zero_mul, Nat.one_mul, Nat.add_zero, Nat.add_assoc, Nat.reduceAdd] at q0 q1 q2 q3 q4 r0 r1 r2 r3 r4 ⊢
  skip
  have HX := HXA 2
  have HY := HYA 3
  obtain ⟨T, hT⟩ : ∃ T, T = parS 2 (levelT p, showT p) := ⟨_, rfl⟩
  obtain ⟨U, hU⟩ : ∃ T, T = parS 3 (levelT q, showT q) := ⟨_, rfl⟩
  rw [← hT] at e1 HX ⊢
  rw [← hU] at e2 HY ⊢
  have hz5 : T.length ≤ 1000002 ∧ U.length ≤ 1000002 := by
    simp only at e1 e2
    omega
  clear hT hU hp hI e1 e2 HXA HYA hv1 hv2 hz3 hz4 hlen
  obtain ⟨S, eS2, eS3, hS⟩ := str_of T
  obtain ⟨Z, eZ2, eZ3, hZ⟩ := str_of U
  simp only [AxV, hS] at HX
  simp only [AxV, hZ] at HY
  obtain ⟨O, hO⟩ : ∃ O, O = Obj.cells #[.int .i64 10, .string s, .int .i64 n, .int .i64 a, .slice (some ⟨g, o, none⟩) 2 (capF 2 c)] 24 := ⟨_, rfl⟩
  have hL : Lies (W.alloc O) W.heap.size 24 #[.int .i64 10, .string s, .int .i64 n, .int .i64 a, .slice (some ⟨g, o, none⟩) 2 (capF 2 c)] := by
    rw [hO]
    exact Lies.new _ _ _
  have hz : Below W.heap.size W (W.alloc O) := (Below.refl _ W).alloc (Nat.le_refl _) _
  have hls : W.heap.size < (W.alloc O).heap.size := hL.lt
  have hcz : ∀ V, Below (W.alloc O).heap.size (W.alloc O) V → (fun V' : World => (V'.cell? ⟨W.heap.size, 1, none⟩ = some (.string s) ∧ V'.cell? ⟨W.heap.size, 4, none⟩ = some (.slice (some ⟨g, o, none⟩) 2 (capF 2 c)) ∧ V'.cell? ⟨g, o, none⟩ = some (.int .i64 k1) ∧ V'.cell? ⟨g, o + 1, none⟩ = some (.string s1) ∧ V'.cell? ⟨g, o + 2, none⟩ = some (.int .i64 n1) ∧ V'.cell? ⟨g, o + 3, none⟩ = some (.int .i64 a1) ∧ V'.cell? ⟨g, o + 4, none⟩ = some (.slice A1 m1 c1) ∧ V'.cell? ⟨g, o + 5, none⟩ = some (.int .i64 k2) ∧ V'.cell? ⟨g, o + 6, none⟩ = some (.string s2) ∧ V'.cell? ⟨g, o + 7, none⟩ = some (.int .i64 n2) ∧ V'.cell? ⟨g, o + 8, none⟩ = some (.int .i64 a2) ∧ V'.cell? ⟨g, o + 9, none⟩ = some (.slice A2 m2 c2))) V := by
    intro V h
    have h1 := hL.below h hls
    have h2 := hz.trans (h.mono (Nat.le_of_lt hls))
    exact ⟨h1.cell 1, h1.cell 4, (h2.cell hgW).trans q0, (h2.cell hgW).trans q1, (h2.cell hgW).trans q2, (h2.cell hgW).trans q3, (h2.cell hgW).trans q4, (h2.cell hgW).trans r0, (h2.cell hgW).trans r1, (h2.cell hgW).trans r2, (h2.cell hgW).trans r3, (h2.cell hgW).trans r4⟩
  have HS := Lib.hid hcz
  have HLV := Lib.hid (fun W1 => rlevel_any 10 n a s (some ⟨g, o, none⟩) 2 (capF 2 c) W1)
  rw [hlv] at HLV
  clear hcz hlv hlv2 hk1
  go_enter Tryz.func34, Tryz.ntmps34
  go_wp2_with fail
  rw [← hO]
  refine (HLV.out _).mono ?_
  rintro e W5 ⟨rfl, hb5⟩
  have hz := hz.trans (hb5.mono (Nat.le_of_lt hls))
  have HS := Lib.hid (fun V' h => HS.out V' (below_step hb5 h))
  have hls : W.heap.size < W5.heap.size := Nat.lt_of_lt_of_le hls hb5.size
  clear hb5 hL hO HLV
  go_upto_region 18 with fail
  have hd0 : Below W5.heap.size W5 W5.drew := (Below.refl _ W5).drew
  have HC := Lib.hid (fun X (h : Below W5.heap.size W5 X) => (HX X (hz.trans (h.mono (Nat.le_of_lt hls)))).mono fun e w' q => (⟨q.1, below_step h q.2⟩ : _ ∧ Below W5.heap.size W5 w'))
  have HD := Lib.hid (fun X (h : Below W5.heap.size W5 X) => (HY X (hz.trans (h.mono (Nat.le_of_lt hls)))).mono fun e w' q => (⟨q.1, below_step h q.2⟩ : _ ∧ Below W5.heap.size W5 w'))
  have hS0 := HS.out _ (Below.refl _ W5)
  have HZ := Lib.hid hz
  have HLS := Lib.hid hls
  have hb0 : ¬ 9223372036854775807 < S.size + 1 := by omega
  have hb1 : ¬ 9223372036854775807 < S.size + 1 + s.size := by omega
  have hb2 : ¬ 9223372036854775807 < S.size + 1 + s.size + 1 := by omega
  have hb3 : ¬ 9223372036854775807 < S.size + 1 + s.size + 1 + Z.size := by omega
  clear hz hls HX HY q0 q1 q2 q3 q4 r0 r1 r2 r3 r4 hS hZ hW hgW hz2 hz5 eS3 eZ3
  refine wp_region_held_drew (S := (fun V' : World => (V'.cell? ⟨W.heap.size, 1, none⟩ = some (.string s) ∧ V'.cell? ⟨W.heap.size, 4, none⟩ = some (.slice (some ⟨g, o, none⟩) 2 (capF 2 c)) ∧ V'.cell? ⟨g, o, none⟩ = some (.int .i64 k1) ∧ V'.cell? ⟨g, o + 1, none⟩ = some (.string s1) ∧ V'.cell? ⟨g, o + 2, none⟩ = some (.int .i64 n1) ∧ V'.cell? ⟨g, o + 3, none⟩ = some (.int .i64 a1) ∧ V'.cell? ⟨g, o + 4, none⟩ = some (.slice A1 m1 c1) ∧ V'.cell? ⟨g, o + 5, none⟩ = some (.int .i64 k2) ∧ V'.cell? ⟨g, o + 6, none⟩ = some (.string s2) ∧ V'.cell? ⟨g, o + 7, none⟩ = some (.int .i64 n2) ∧ V'.cell? ⟨g, o + 8, none⟩ = some (.int .i64 a2) ∧ V'.cell? ⟨g, o + 9, none⟩ = some (.slice A2 m2 c2)))) rfl hS0 (fun hSs => ?_)
  change wpAnyH _ _ _ _ _ 21 (Array.replicate 21 false) _ _
  refine wpAnyH_take (i := 0) (oi := ⟨some 104, _, _, _, _, _⟩) (v := .pointer (some ⟨W.heap.size, 4, none⟩)) rfl (by kernel_rfl) (by kernel_rfl) (by kernel_rfl) (fun _ _ _ h => h) (.inl ⟨by kernel_rfl, fun W hW => by first | (obtain ⟨z0, z1, z2, z3, z4, z5, z6, z7, z8, z9, z10, z11⟩ := hW; go_simp; done) | (obtain ⟨z0, z1, z2, z3, z4, z5, z6, z7, z8, z9, z10, z11⟩ := hW; go_simp; omega) | (obtain ⟨z0, z1, z2, z3, z4, z5, z6, z7, z8, z9, z10, z11⟩ := hW; go_simp; simp [*]; done)⟩) hSs ?_
  try simp only [Act.put, List.setIfInBounds_toArray, List.set_cons_zero, List.set_cons_succ]
  refine wpAnyH_take (i := 1) (oi := ⟨some 105, _, _, _, _, _⟩) (v := .slice (some ⟨g, o, none⟩) 2 (capF 2 c)) rfl (by kernel_rfl) (by kernel_rfl) (by kernel_rfl) (fun _ _ _ h => h) (.inl ⟨by kernel_rfl, fun W hW => by first | (obtain ⟨z0, z1, z2, z3, z4, z5, z6, z7, z8, z9, z10, z11⟩ := hW; go_simp; done) | (obtain ⟨z0, z1, z2, z3, z4, z5, z6, z7, z8, z9, z10, z11⟩ := hW; go_simp; omega) | (obtain ⟨z0, z1, z2, z3, z4, z5, z6, z7, z8, z9, z10, z11⟩ := hW; go_simp; simp [*]; done)⟩) hSs ?_
  try simp only [Act.put, List.setIfInBounds_toArray, List.set_cons_zero, List.set_cons_succ]
  refine wpAnyH_take (i := 2) (oi := ⟨some 106, _, _, _, _, _⟩) (v := .pointer (some ⟨g, o, none⟩)) rfl (by kernel_rfl) (by kernel_rfl) (by kernel_rfl) (fun _ _ _ h => h) (.inl ⟨by kernel_rfl, fun W hW => by first | (obtain ⟨z0, z1, z2, z3, z4, z5, z6, z7, z8, z9, z10, z11⟩ := hW; go_simp; done) | (obtain ⟨z0, z1, z2, z3, z4, z5, z6, z7, z8, z9, z10, z11⟩ := hW; go_simp; omega) | (obtain ⟨z0, z1, z2, z3, z4, z5, z6, z7, z8, z9, z10, z11⟩ := hW; go_simp; simp [*]; done)⟩) hSs ?_
  try simp only [Act.put, List.setIfInBounds_toArray, List.set_cons_zero, List.set_cons_succ]
  refine wpAnyH_take (i := 3) (oi := ⟨some 107, _, _, _, _, _⟩) (v := .agg #[.int .i64 k1, .string s1, .int .i64 n1, .int .i64 a1, .slice A1 m1 c1]) rfl (by kernel_rfl) (by kernel_rfl) (by kernel_rfl) (fun _ _ _ h => h) (.inl ⟨by kernel_rfl, fun W hW => by first | (obtain ⟨z0, z1, z2, z3, z4, z5, z6, z7, z8, z9, z10, z11⟩ := hW; go_simp; done) | (obtain ⟨z0, z1, z2, z3, z4, z5, z6, z7, z8, z9, z10, z11⟩ := hW; go_simp; omega) | (obtain ⟨z0, z1, z2, z3, z4, z5, z6, z7, z8, z9, z10, z11⟩ := hW; go_simp; simp [*]; done)⟩) hSs ?_
  try simp only [Act.put, List.setIfInBounds_toArray, List.set_cons_zero, List.set_cons_succ]
  refine wpAnyH_take (i := 4) (oi := ⟨some 108, _, _, _, _, _⟩) (v := .int .i64 2) rfl (by kernel_rfl) (by kernel_rfl) (by kernel_rfl) (fun _ _ _ h => h) (.inl ⟨by kernel_rfl, fun W hW => by kernel_rfl⟩) hSs ?_
  try simp only [Act.put, List.setIfInBounds_toArray, List.set_cons_zero, List.set_cons_succ]
  refine wpAnyH_take (i := 5) (oi := ⟨some 109, _, _, _, _, _⟩) (v := .int .i64 2) rfl (by kernel_rfl) (by kernel_rfl) (by kernel_rfl) (fun _ _ _ h => h) (.inl ⟨by kernel_rfl, fun W hW => by first | (obtain ⟨z0, z1, z2, z3, z4, z5, z6, z7, z8, z9, z10, z11⟩ := hW; go_simp; done) | (obtain ⟨z0, z1, z2, z3, z4, z5, z6, z7, z8, z9, z10, z11⟩ := hW; go_simp; omega) | (obtain ⟨z0, z1, z2, z3, z4, z5, z6, z7, z8, z9, z10, z11⟩ := hW; go_simp; simp [*]; done)⟩) hSs ?_
  try simp only [Act.put, List.setIfInBounds_toArray, List.set_cons_zero, List.set_cons_succ]
  refine wpAnyH_take (i := 8) (oi := ⟨some 112, _, _, _, _, _⟩) (v := .pointer (some ⟨W.heap.size, 1, none⟩)) rfl (by kernel_rfl) (by kernel_rfl) (by kernel_rfl) (fun _ _ _ h => h) (.inl ⟨by kernel_rfl, fun W hW => by first | (obtain ⟨z0, z1, z2, z3, z4, z5, z6, z7, z8, z9, z10, z11⟩ := hW; go_simp; done) | (obtain ⟨z0, z1, z2, z3, z4, z5, z6, z7, z8, z9, z10, z11⟩ := hW; go_simp; omega) | (obtain ⟨z0, z1, z2, z3, z4, z5, z6, z7, z8, z9, z10, z11⟩ := hW; go_simp; simp [*]; done)⟩) hSs ?_
  try simp only [Act.put, List.setIfInBounds_toArray, List.set_cons_zero, List.set_cons_succ]
  refine wpAnyH_take (i := 9) (oi := ⟨some 113, _, _, _, _, _⟩) (v := .string s) rfl (by kernel_rfl) (by kernel_rfl) (by kernel_rfl) (fun _ _ _ h => h) (.inl ⟨by kernel_rfl, fun W hW => by first | (obtain ⟨z0, z1, z2, z3, z4, z5, z6, z7, z8, z9, z10, z11⟩ := hW; go_simp; done) | (obtain ⟨z0, z1, z2, z3, z4, z5, z6, z7, z8, z9, z10, z11⟩ := hW; go_simp; omega) | (obtain ⟨z0, z1, z2, z3, z4, z5, z6, z7, z8, z9, z10, z11⟩ := hW; go_simp; simp [*]; done)⟩) hSs ?_
  try simp only [Act.put, List.setIfInBounds_toArray, List.set_cons_zero, List.set_cons_succ]
  refine wpAnyH_take (i := 12) (oi := ⟨some 116, _, _, _, _, _⟩) (v := .pointer (some ⟨W.heap.size, 4, none⟩)) rfl (by kernel_rfl) (by kernel_rfl) (by kernel_rfl) (fun _ _ _ h => h) (.inl ⟨by kernel_rfl, fun W hW => by first | (obtain ⟨z0, z1, z2, z3, z4, z5, z6, z7, z8, z9, z10, z11⟩ := hW; go_simp; done) | (obtain ⟨z0, z1, z2, z3, z4, z5, z6, z7, z8, z9, z10, z11⟩ := hW; go_simp; omega) | (obtain ⟨z0, z1, z2, z3, z4, z5, z6, z7, z8, z9, z10, z11⟩ := hW; go_simp; simp [*]; done)⟩) hSs ?_
  try simp only [Act.put, List.setIfInBounds_toArray, List.set_cons_zero, List.set_cons_succ]
  refine wpAnyH_take (i := 13) (oi := ⟨some 117, _, _, _, _, _⟩) (v := .slice (some ⟨g, o, none⟩) 2 (capF 2 c)) rfl (by kernel_rfl) (by kernel_rfl) (by kernel_rfl) (fun _ _ _ h => h) (.inl ⟨by kernel_rfl, fun W hW => by first | (obtain ⟨z0, z1, z2, z3, z4, z5, z6, z7, z8, z9, z10, z11⟩ := hW; go_simp; done) | (obtain ⟨z0, z1, z2, z3, z4, z5, z6, z7, z8, z9, z10, z11⟩ := hW; go_simp; omega) | (obtain ⟨z0, z1, z2, z3, z4, z5, z6, z7, z8, z9, z10, z11⟩ := hW; go_simp; simp [*]; done)⟩) hSs ?_
  try simp only [Act.put, List.setIfInBounds_toArray, List.set_cons_zero, List.set_cons_succ]
  refine wpAnyH_take (i := 14) (oi := ⟨some 118, _, _, _, _, _⟩) (v := .pointer (some ⟨g, o + 5, none⟩)) rfl (by kernel_rfl) (by kernel_rfl) (by kernel_rfl) (fun _ _ _ h => h) (.inl ⟨by kernel_rfl, fun W hW => by first | (obtain ⟨z0, z1, z2, z3, z4, z5, z6, z7, z8, z9, z10, z11⟩ := hW; go_simp; done) | (obtain ⟨z0, z1, z2, z3, z4, z5, z6, z7, z8, z9, z10, z11⟩ := hW; go_simp; omega) | (obtain ⟨z0, z1, z2, z3, z4, z5, z6, z7, z8, z9, z10, z11⟩ := hW; go_simp; simp [*]; done)⟩) hSs ?_
  try simp only [Act.put, List.setIfInBounds_toArray, List.set_cons_zero, List.set_cons_succ]
  refine wpAnyH_take (i := 15) (oi := ⟨some 119, _, _, _, _, _⟩) (v := .agg #[.int .i64 k2, .string s2, .int .i64 n2, .int .i64 a2, .slice A2 m2 c2]) rfl (by kernel_rfl) (by kernel_rfl) (by kernel_rfl) (fun _ _ _ h => h) (.inl ⟨by kernel_rfl, fun W hW => by first | (obtain ⟨z0, z1, z2, z3, z4, z5, z6, z7, z8, z9, z10, z11⟩ := hW; go_simp; done) | (obtain ⟨z0, z1, z2, z3, z4, z5, z6, z7, z8, z9, z10, z11⟩ := hW; go_simp; omega) | (obtain ⟨z0, z1, z2, z3, z4, z5, z6, z7, z8, z9, z10, z11⟩ := hW; go_simp; simp [*]; done)⟩) hSs ?_
  try simp only [Act.put, List.setIfInBounds_toArray, List.set_cons_zero, List.set_cons_succ]
  refine wpAnyH_take (i := 16) (oi := ⟨some 120, _, _, _, _, _⟩) (v := .int .i64 2) rfl (by kernel_rfl) (by kernel_rfl) (by kernel_rfl) (fun _ _ _ h => h) (.inl ⟨by kernel_rfl, fun W hW => by kernel_rfl⟩) hSs ?_
  try simp only [Act.put, List.setIfInBounds_toArray, List.set_cons_zero, List.set_cons_succ]
  refine wpAnyH_take (i := 17) (oi := ⟨some 121, _, _, _, _, _⟩) (v := .int .i64 3) rfl (by kernel_rfl) (by kernel_rfl) (by kernel_rfl) (fun _ _ _ h => h) (.inl ⟨by kernel_rfl, fun W hW => by kernel_rfl⟩) hSs ?_
  try simp only [Act.put, List.setIfInBounds_toArray, List.set_cons_zero, List.set_cons_succ]
  refine wpAnyH_ready (rs := [6]) (by kernel_rfl) (by simp) (AllReadyH.cons rfl (fun K hK => ?_) AllReadyH.nil)
  go_simp
  refine (HC.out _ hd0).mono ?_
  rintro e u1 ⟨rfl, hd1⟩
  refine hK.out _ _ (HS.out _ hd1) (fun hS1 => ?_)
  clear hK K
  try simp only [Act.put, List.setIfInBounds_toArray, List.set_cons_zero, List.set_cons_succ]
  refine wpAnyH_take (i := 7) (oi := ⟨some 111, _, _, _, _, _⟩) (v := .string (S ++ (⟨#[32]⟩ : ByteArray))) rfl (by kernel_rfl) (by kernel_rfl) (by kernel_rfl) (fun _ _ _ h => h) (.inl ⟨by kernel_rfl, fun W hW => by first | (obtain ⟨z0, z1, z2, z3, z4, z5, z6, z7, z8, z9, z10, z11⟩ := hW; go_simp; done) | (obtain ⟨z0, z1, z2, z3, z4, z5, z6, z7, z8, z9, z10, z11⟩ := hW; go_simp; omega) | (obtain ⟨z0, z1, z2, z3, z4, z5, z6, z7, z8, z9, z10, z11⟩ := hW; go_simp; simp [*]; done)⟩) hS1 ?_
  try simp only [Act.put, List.setIfInBounds_toArray, List.set_cons_zero, List.set_cons_succ]
  refine wpAnyH_take (i := 10) (oi := ⟨some 114, _, _, _, _, _⟩) (v := .string ((S ++ (⟨#[32]⟩ : ByteArray)) ++ s)) rfl (by kernel_rfl) (by kernel_rfl) (by kernel_rfl) (fun _ _ _ h => h) (.inl ⟨by kernel_rfl, fun W hW => by first | (obtain ⟨z0, z1, z2, z3, z4, z5, z6, z7, z8, z9, z10, z11⟩ := hW; go_simp; done) | (obtain ⟨z0, z1, z2, z3, z4, z5, z6, z7, z8, z9, z10, z11⟩ := hW; go_simp; omega) | (obtain ⟨z0, z1, z2, z3, z4, z5, z6, z7, z8, z9, z10, z11⟩ := hW; go_simp; simp [*]; done)⟩) hS1 ?_
  try simp only [Act.put, List.setIfInBounds_toArray, List.set_cons_zero, List.set_cons_succ]
  refine wpAnyH_take (i := 11) (oi := ⟨some 115, _, _, _, _, _⟩) (v := .string (((S ++ (⟨#[32]⟩ : ByteArray)) ++ s) ++ (⟨#[32]⟩ : ByteArray))) rfl (by kernel_rfl) (by kernel_rfl) (by kernel_rfl) (fun _ _ _ h => h) (.inl ⟨by kernel_rfl, fun W hW => by first | (obtain ⟨z0, z1, z2, z3, z4, z5, z6, z7, z8, z9, z10, z11⟩ := hW; go_simp; done) | (obtain ⟨z0, z1, z2, z3, z4, z5, z6, z7, z8, z9, z10, z11⟩ := hW; go_simp; omega) | (obtain ⟨z0, z1, z2, z3, z4, z5, z6, z7, z8, z9, z10, z11⟩ := hW; go_simp; simp [*]; done)⟩) hS1 ?_
  try simp only [Act.put, List.setIfInBounds_toArray, List.set_cons_zero, List.set_cons_succ]
  refine wpAnyH_ready (rs := [18]) (by kernel_rfl) (by simp) (AllReadyH.cons rfl (fun K hK => ?_) AllReadyH.nil)
  go_simp
  refine (HD.out _ hd1).mono ?_
  rintro e u2 ⟨rfl, hd2⟩
  refine hK.out _ _ (HS.out _ hd2) (fun hS2 => ?_)
  clear hK K
  try simp only [Act.put, List.setIfInBounds_toArray, List.set_cons_zero, List.set_cons_succ]
  refine wpAnyH_take (i := 19) (oi := ⟨some 123, _, _, _, _, _⟩) (v := .string ((((S ++ (⟨#[32]⟩ : ByteArray)) ++ s) ++ (⟨#[32]⟩ : ByteArray)) ++ Z)) rfl (by kernel_rfl) (by kernel_rfl) (by kernel_rfl) (fun _ _ _ h => h) (.inl ⟨by kernel_rfl, fun W hW => by first | (obtain ⟨z0, z1, z2, z3, z4, z5, z6, z7, z8, z9, z10, z11⟩ := hW; go_simp; done) | (obtain ⟨z0, z1, z2, z3, z4, z5, z6, z7, z8, z9, z10, z11⟩ := hW; go_simp; omega) | (obtain ⟨z0, z1, z2, z3, z4, z5, z6, z7, z8, z9, z10, z11⟩ := hW; go_simp; simp [*]; done)⟩) hS2 ?_
  try simp only [Act.put, List.setIfInBounds_toArray, List.set_cons_zero, List.set_cons_succ]
  refine wpAnyH_take (i := 20) (oi := ⟨some 2, _, _, _, _, _⟩) (v := .string ((((S ++ (⟨#[32]⟩ : ByteArray)) ++ s) ++ (⟨#[32]⟩ : ByteArray)) ++ Z)) rfl (by kernel_rfl) (by kernel_rfl) (by kernel_rfl) (fun _ _ _ h => h) (.inl ⟨by kernel_rfl, fun W hW => by kernel_rfl⟩) hS2 ?_
  try simp only [Act.put, List.setIfInBounds_toArray, List.set_cons_zero, List.set_cons_succ]
  refine wpAnyH_done (by kernel_rfl) ?_ _
  go_wp2_with fail
  go_ret
  refine ⟨?_, HZ.out.trans (hd2.mono (Nat.le_of_lt HLS.out))⟩
  show Ending.returned (Value.string (_ ++ Z)) = _
  congr 2
  apply ByteArray.ext
  apply Array.toList_inj.1
  simp [eS2, eZ2]
set_option maxHeartbeats 4000000 in
theorem rtx_op3 (n a : Int) (s : ByteArray) (p q : Tr) (A : Option Addr) (c : Nat) (w : World) (hlv : levelR 10 s.data.toList 2 = 3) (hlv2 : levelS s.data.toList = 3) (hI : TIn w Any (.node 10 s n a [p, q]) A) (hlen : (showT (.node 10 s n a [p, q])).length ≤ 1000000)
    (hv1 : LvOk p) (hv2 : LvOk q) (hp : ∀ u ∈ [p, q], ∀ A' c', TIn w Any u A' → RTx w u A' c') : RTx w (.node 10 s n a [p, q]) A c := by
  intro W hW
  rw [show_op, hlv2] at hlen ⊢
  rw [show (if (3 : Int) = 1 then 2 else (3 : Int)) = 3 from by decide, show (3 : Int) + 1 = 4 from rfl] at hlen ⊢
  have e1 := len_parS (3) (levelT p, showT p)
  have e2 := len_parS (4) (levelT q, showT q)
  have hz1 : s.size ≤ 1000000 ∧ (showT p).length ≤ 1000000 ∧ (showT q).length ≤ 1000000 := by
    have h9 : s.data.toList.length = s.size := by simp
    simp only [List.length_append, List.length_cons, List.length_nil] at hlen
    simp only at e1 e2
    have h8 := hlen
    omega
  obtain ⟨hz2, hz3, hz4⟩ := hz1
  obtain ⟨g, o, k1, s1, n1, a1, A1, m1, c1, rfl, hgW, q0, q1, q2, q3, q4, hk1, HX, HXA⟩ := rpart2 hI 0 (by simp [Tr.parts]) hW hp hv1 hz3
  obtain ⟨g2, o2, k2, s2, n2, a2, A2, m2, c2, e2', -, r0, r1, r2, r3, r4, -, HY, HYA⟩ := rpart2 hI 1 (by simp [Tr.parts]) hW hp hv2 hz4
  simp only [Option.some.injEq, Addr.mk.injEq, and_true] at e2'
  obtain ⟨rfl, rfl⟩ := e2'
  simp only [Tr.parts, List.getElem_cons_zero, List.getElem_cons_succ] at HX HY HXA HYA hk1
  simp only [tv, Tr.kind, Tr.name, Tr.n, Tr.place, Tr.parts, List.length_cons, List.length_nil]
  simp only [Nat.zero_mul, Nat.one_mul, Nat.add_zero, Nat.add_assoc, Nat.reduceAdd] at q0 q1 q2 q3 q4 r0 r1 r2 r3 r4 ⊢
  skip
  have HX := HXA 3
  have HY := HYA 4
  obtain ⟨T, hT⟩ : ∃ T, T = parS 3 (levelT p, showT p) := ⟨_, rfl⟩
  obtain ⟨U, hU⟩ : ∃ T, T = parS 4 (levelT q, showT q) := ⟨_, rfl⟩
  rw [← hT] at e1 HX ⊢
  rw [← hU] at e2 HY ⊢
  have hz5 : T.length ≤ 1000002 ∧ U.length ≤ 1000002 := by
    simp only at e1 e2
    omega
  clear hT hU hp hI e1 e2 HXA HYA hv1 hv2 hz3 hz4 hlen
  obtain ⟨S, eS2, eS3, hS⟩ := str_of T
  obtain ⟨Z, eZ2, eZ3, hZ⟩ := str_of U
  simp only [AxV, hS] at HX
  simp only [AxV, hZ] at HY
  obtain ⟨O, hO⟩ : ∃ O, O = Obj.cells #[.int .i64 10, .string s, .int .i64 n, .int .i64 a, .slice (some ⟨g, o, none⟩) 2 (capF 2 c)] 24 := ⟨_, rfl⟩
  have hL : Lies (W.alloc O) W.heap.size 24 #[.int .i64 10, .string s, .int .i64 n, .int .i64 a, .slice (some ⟨g, o, none⟩) 2 (capF 2 c)] := by
    rw [hO]
    exact Lies.new _ _ _
  have hz : Below W.heap.size W (W.alloc O) := (Below.refl _ W).alloc (Nat.le_refl _) _
  have hls : W.heap.size < (W.alloc O).heap.size := hL.lt
  have hcz : ∀ V, Below (W.alloc O).heap.size (W.alloc O) V → (fun V' : World => (V'.cell? ⟨W.heap.size, 1, none⟩ = some (.string s) ∧ V'.cell? ⟨W.heap.size, 4, none⟩ = some (.slice (some ⟨g, o, none⟩) 2 (capF 2 c)) ∧ V'.cell? ⟨g, o, none⟩ = some (.int .i64 k1) ∧ V'.cell? ⟨g, o + 1, none⟩ = some (.string s1) ∧ V'.cell? ⟨g, o + 2, none⟩ = some (.int .i64 n1) ∧ V'.cell? ⟨g, o + 3, none⟩ = some (.int .i64 a1) ∧ V'.cell? ⟨g, o + 4, none⟩ = some (.slice A1 m1 c1) ∧ V'.cell? ⟨g, o + 5, none⟩ = some (.int .i64 k2) ∧ V'.cell? ⟨g, o + 6, none⟩ = some (.string s2) ∧ V'.cell? ⟨g, o + 7, none⟩ = some (.int .i64 n2) ∧ V'.cell? ⟨g, o + 8, none⟩ = some (.int .i64 a2) ∧ V'.cell? ⟨g, o + 9, none⟩ = some (.slice A2 m2 c2))) V := by
    intro V h
    have h1 := hL.below h hls
    have h2 := hz.trans (h.mono (Nat.le_of_lt hls))
    exact ⟨h1.cell 1, h1.cell 4, (h2.cell hgW).trans q0, (h2.cell hgW).trans q1, (h2.cell hgW).trans q2, (h2.cell hgW).trans q3, (h2.cell hgW).trans q4, (h2.cell hgW).trans r0, (h2.cell hgW).trans r1, (h2.cell hgW).trans r2, (h2.cell hgW).trans r3, (h2.cell hgW).trans r4⟩
  have HS := Lib.hid hcz
  have HLV := Lib.hid (fun W1 => rlevel_any 10 n a s (some ⟨g, o, none⟩) 2 (capF 2 c) W1)
  rw [hlv] at HLV
  clear hcz hlv hlv2 hk1
  go_enter Tryz.func34, Tryz.ntmps34
  go_wp2_with fail
  rw [← hO]
  refine (HLV.out _).mono ?_
  rintro e W5 ⟨rfl, hb5⟩
  have hz := hz.trans (hb5.mono (Nat.le_of_lt hls))
  have HS := Lib.hid (fun V' h => HS.out V' (below_step hb5 h))
  have hls : W.heap.size < W5.heap.size := Nat.lt_of_lt_of_le hls hb5.size
  clear hb5 hL hO HLV
  go_upto_region 18 with fail
  have hd0 : Below W5.heap.size W5 W5.drew := (Below.refl _ W5).drew
  have HC := Lib.hid (fun X (h : Below W5.heap.size W5 X) => (HX X (hz.trans (h.mono (Nat.le_of_lt hls)))).mono fun e w' q => (⟨q.1, below_step h q.2⟩ : _ ∧ Below W5.heap.size W5 w'))
  have HD := Lib.hid (fun X (h : Below W5.heap.size W5 X) => (HY X (hz.trans (h.mono (Nat.le_of_lt hls)))).mono fun e w' q => (⟨q.1, below_step h q.2⟩ : _ ∧ Below W5.heap.size W5 w'))
  have hS0 := HS.out _ (Below.refl _ W5)
  have HZ := Lib.hid hz
  have HLS := Lib.hid hls
  have hb0 : ¬ 9223372036854775807 < S.size + 1 := by omega
  have hb1 : ¬ 9223372036854775807 < S.size + 1 + s.size := by omega
  have hb2 : ¬ 9223372036854775807 < S.size + 1 + s.size + 1 := by omega
  have hb3 : ¬ 9223372036854775807 < S.size + 1 + s.size + 1 + Z.size := by omega
  clear hz hls HX HY q0 q1 q2 q3 q4 r0 r1 r2 r3 r4 hS hZ hW hgW hz2 hz5 eS3 eZ3
  refine wp_region_held_drew (S := (fun V' : World => (V'.cell? ⟨W.heap.size, 1, none⟩ = some (.string s) ∧ V'.cell? ⟨W.heap.size, 4, none⟩ = some (.slice (some ⟨g, o, none⟩) 2 (capF 2 c)) ∧ V'.cell? ⟨g, o, none⟩ = some (.int .i64 k1) ∧ V'.cell? ⟨g, o + 1, none⟩ = some (.string s1) ∧ V'.cell? ⟨g, o + 2, none⟩ = some (.int .i64 n1) ∧ V'.cell? ⟨g, o + 3, none⟩ = some (.int .i64 a1) ∧ V'.cell? ⟨g, o + 4, none⟩ = some (.slice A1 m1 c1) ∧ V'.cell? ⟨g, o + 5, none⟩ = some (.int .i64 k2) ∧ V'.cell? ⟨g, o + 6, none⟩ = some (.string s2) ∧ V'.cell? ⟨g, o + 7, none⟩ = some (.int .i64 n2) ∧ V'.cell? ⟨g, o + 8, none⟩ = some (.int .i64 a2) ∧ V'.cell? ⟨g, o + 9, none⟩ = some (.slice A2 m2 c2)))) rfl hS0 (fun hSs => ?_)
  change wpAnyH _ _ _ _ _ 21 (Array.replicate 21 false) _ _
  refine wpAnyH_take (i := 0) (oi := ⟨some 104, _, _, _, _, _⟩) (v := .pointer (some ⟨W.heap.size, 4, none⟩)) rfl (by kernel_rfl) (by kernel_rfl) (by kernel_rfl) (fun _ _ _ h => h) (.inl ⟨by kernel_rfl, fun W hW => by first | (obtain ⟨z0, z1, z2, z3, z4, z5, z6, z7, z8, z9, z10, z11⟩ := hW; go_simp; done) | (obtain ⟨z0, z1, z2, z3, z4, z5, z6, z7, z8, z9, z10, z11⟩ := hW; go_simp; omega) | (obtain ⟨z0, z1, z2, z3, z4, z5, z6, z7, z8, z9, z10, z11⟩ := hW; go_simp; simp [*]; done)⟩) hSs ?_
  try simp only [Act.put, List.setIfInBounds_toArray, List.set_cons_zero, List.set_cons_succ]
  refine wpAnyH_take (i := 1) (oi := ⟨some 105, _, _, _, _, _⟩) (v := .slice (some ⟨g, o, none⟩) 2 (capF 2 c)) rfl (by kernel_rfl) (by kernel_rfl) (by kernel_rfl) (fun _ _ _ h => h) (.inl ⟨by kernel_rfl, fun W hW => by first | (obtain ⟨z0, z1, z2, z3, z4, z5, z6, z7, z8, z9, z10, z11⟩ := hW; go_simp; done) | (obtain ⟨z0, z1, z2, z3, z4, z5, z6, z7, z8, z9, z10, z11⟩ := hW; go_simp; omega) | (obtain ⟨z0, z1, z2, z3, z4, z5, z6, z7, z8, z9, z10, z11⟩ := hW; go_simp; simp [*]; done)⟩) hSs ?_
  try simp only [Act.put, List.setIfInBounds_toArray, List.set_cons_zero, List.set_cons_succ]
  refine wpAnyH_take (i := 2) (oi := ⟨some 106, _, _, _, _, _⟩) (v := .pointer (some ⟨g, o, none⟩)) rfl (by kernel_rfl) (by kernel_rfl) (by kernel_rfl) (fun _ _ _ h => h) (.inl ⟨by kernel_rfl, fun W hW => by first | (obtain ⟨z0, z1, z2, z3, z4, z5, z6, z7, z8, z9, z10, z11⟩ := hW; go_simp; done) | (obtain ⟨z0, z1, z2, z3, z4, z5, z6, z7, z8, z9, z10, z11⟩ := hW; go_simp; omega) | (obtain ⟨z0, z1, z2, z3, z4, z5, z6, z7, z8, z9, z10, z11⟩ := hW; go_simp; simp [*]; done)⟩) hSs ?_
  try simp only [Act.put, List.setIfInBounds_toArray, List.set_cons_zero, List.set_cons_succ]
  refine wpAnyH_take (i := 3) (oi := ⟨some 107, _, _, _, _, _⟩) (v := .agg #[.int .i64 k1, .string s1, .int .i64 n1, .int .i64 a1, .slice A1 m1 c1]) rfl (by kernel_rfl) (by kernel_rfl) (by kernel_rfl) (fun _ _ _ h => h) (.inl ⟨by kernel_rfl, fun W hW => by first | (obtain ⟨z0, z1, z2, z3, z4, z5, z6, z7, z8, z9, z10, z11⟩ := hW; go_simp; done) | (obtain ⟨z0, z1, z2, z3, z4, z5, z6, z7, z8, z9, z10, z11⟩ := hW; go_simp; omega) | (obtain ⟨z0, z1, z2, z3, z4, z5, z6, z7, z8, z9, z10, z11⟩ := hW; go_simp; simp [*]; done)⟩) hSs ?_
  try simp only [Act.put, List.setIfInBounds_toArray, List.set_cons_zero, List.set_cons_succ]
  refine wpAnyH_take (i := 4) (oi := ⟨some 108, _, _, _, _, _⟩) (v := .int .i64 3) rfl (by kernel_rfl) (by kernel_rfl) (by kernel_rfl) (fun _ _ _ h => h) (.inl ⟨by kernel_rfl, fun W hW => by kernel_rfl⟩) hSs ?_
  try simp only [Act.put, List.setIfInBounds_toArray, List.set_cons_zero, List.set_cons_succ]
  refine wpAnyH_take (i := 5) (oi := ⟨some 109, _, _, _, _, _⟩) (v := .int .i64 3) rfl (by kernel_rfl) (by kernel_rfl) (by kernel_rfl) (fun _ _ _ h => h) (.inl ⟨by kernel_rfl, fun W hW => by first | (obtain ⟨z0, z1, z2, z3, z4, z5, z6, z7, z8, z9, z10, z11⟩ := hW; go_simp; done) | (obtain ⟨z0, z1, z2, z3, z4, z5, z6, z7, z8, z9, z10, z11⟩ := hW; go_simp; omega) | (obtain ⟨z0, z1, z2, z3, z4, z5, z6, z7, z8, z9, z10, z11⟩ := hW; go_simp; simp [*]; done)⟩) hSs ?_
  try simp only [Act.put, List.setIfInBounds_toArray, List.set_cons_zero, List.set_cons_succ]
  refine wpAnyH_take (i := 8) (oi := ⟨some 112, _, _, _, _, _⟩) (v := .pointer (some ⟨W.heap.size, 1, none⟩)) rfl (by kernel_rfl) (by kernel_rfl) (by kernel_rfl) (fun _ _ _ h => h) (.inl ⟨by kernel_rfl, fun W hW => by first | (obtain ⟨z0, z1, z2, z3, z4, z5, z6, z7, z8, z9, z10, z11⟩ := hW; go_simp; done) | (obtain ⟨z0, z1, z2, z3, z4, z5, z6, z7, z8, z9, z10, z11⟩ := hW; go_simp; omega) | (obtain ⟨z0, z1, z2, z3, z4, z5, z6, z7, z8, z9, z10, z11⟩ := hW; go_simp; simp [*]; done)⟩) hSs ?_
  try simp only [Act.put, List.setIfInBounds_toArray, List.set_cons_zero, List.set_cons_succ]
  refine wpAnyH_take (i := 9) (oi := ⟨some 113, _, _, _, _, _⟩) (v := .string s) rfl (by kernel_rfl) (by kernel_rfl) (by kernel_rfl) (fun _ _ _ h => h) (.inl ⟨by kernel_rfl, fun W hW => by first | (obtain ⟨z0, z1, z2, z3, z4, z5, z6, z7, z8, z9, z10, z11⟩ := hW; go_simp; done) | (obtain ⟨z0, z1, z2, z3, z4, z5, z6, z7, z8, z9, z10, z11⟩ := hW; go_simp; omega) | (obtain ⟨z0, z1, z2, z3, z4, z5, z6, z7, z8, z9, z10, z11⟩ := hW; go_simp; simp [*]; done)⟩) hSs ?_
  try simp only [Act.put, List.setIfInBounds_toArray, List.set_cons_zero, List.set_cons_succ]
  refine wpAnyH_take (i := 12) (oi := ⟨some 116, _, _, _, _, _⟩) (v := .pointer (some ⟨W.heap.size, 4, none⟩)) rfl (by kernel_rfl) (by kernel_rfl) (by kernel_rfl) (fun _ _ _ h => h) (.inl ⟨by kernel_rfl, fun W hW => by first | (obtain ⟨z0, z1, z2, z3, z4, z5, z6, z7, z8, z9, z10, z11⟩ := hW; go_simp; done) | (obtain ⟨z0, z1, z2, z3, z4, z5, z6, z7, z8, z9, z10, z11⟩ := hW; go_simp; omega) | (obtain ⟨z0, z1, z2, z3, z4, z5, z6, z7, z8, z9, z10, z11⟩ := hW; go_simp; simp [*]; done)⟩) hSs ?_
  try simp only [Act.put, List.setIfInBounds_toArray, List.set_cons_zero, List.set_cons_succ]
  refine wpAnyH_take (i := 13) (oi := ⟨some 117, _, _, _, _, _⟩) (v := .slice (some ⟨g, o, none⟩) 2 (capF 2 c)) rfl (by kernel_rfl) (by kernel_rfl) (by kernel_rfl) (fun _ _ _ h => h) (.inl ⟨by kernel_rfl, fun W hW => by first | (obtain ⟨z0, z1, z2, z3, z4, z5, z6, z7, z8, z9, z10, z11⟩ := hW; go_simp; done) | (obtain ⟨z0, z1, z2, z3, z4, z5, z6, z7, z8, z9, z10, z11⟩ := hW; go_simp; omega) | (obtain ⟨z0, z1, z2, z3, z4, z5, z6, z7, z8, z9, z10, z11⟩ := hW; go_simp; simp [*]; done)⟩) hSs ?_
  try simp only [Act.put, List.setIfInBounds_toArray, List.set_cons_zero, List.set_cons_succ]
  refine wpAnyH_take (i := 14) (oi := ⟨some 118, _, _, _, _, _⟩) (v := .pointer (some ⟨g, o + 5, none⟩)) rfl (by kernel_rfl) (by kernel_rfl) (by kernel_rfl) (fun _ _ _ h => h) (.inl ⟨by kernel_rfl, fun W hW => by first | (obtain ⟨z0, z1, z2, z3, z4, z5, z6, z7, z8, z9, z10, z11⟩ := hW; go_simp; done) | (obtain ⟨z0, z1, z2, z3, z4, z5, z6, z7, z8, z9, z10, z11⟩ := hW; go_simp; omega) | (obtain ⟨z0, z1, z2, z3, z4, z5, z6, z7, z8, z9, z10, z11⟩ := hW; go_simp; simp [*]; done)⟩) hSs ?_
  try simp only [Act.put, List.setIfInBounds_toArray, List.set_cons_zero, List.set_cons_succ]
  refine wpAnyH_take (i := 15) (oi := ⟨some 119, _, _, _, _, _⟩) (v := .agg #[.int .i64 k2, .string s2, .int .i64 n2, .int .i64 a2, .slice A2 m2 c2]) rfl (by kernel_rfl) (by kernel_rfl) (by kernel_rfl) (fun _ _ _ h => h) (.inl ⟨by kernel_rfl, fun W hW => by first | (obtain ⟨z0, z1, z2, z3, z4, z5, z6, z7, z8, z9, z10, z11⟩ := hW; go_simp; done) | (obtain ⟨z0, z1, z2, z3, z4, z5, z6, z7, z8, z9, z10, z11⟩ := hW; go_simp; omega) | (obtain ⟨z0, z1, z2, z3, z4, z5, z6, z7, z8, z9, z10, z11⟩ := hW; go_simp; simp [*]; done)⟩) hSs ?_
  try simp only [Act.put, List.setIfInBounds_toArray, List.set_cons_zero, List.set_cons_succ]
  refine wpAnyH_take (i := 16) (oi := ⟨some 120, _, _, _, _, _⟩) (v := .int .i64 3) rfl (by kernel_rfl) (by kernel_rfl) (by kernel_rfl) (fun _ _ _ h => h) (.inl ⟨by kernel_rfl, fun W hW => by kernel_rfl⟩) hSs ?_
  try simp only [Act.put, List.setIfInBounds_toArray, List.set_cons_zero, List.set_cons_succ]
  refine wpAnyH_take (i := 17) (oi := ⟨some 121, _, _, _, _, _⟩) (v := .int .i64 4) rfl (by kernel_rfl) (by kernel_rfl) (by kernel_rfl) (fun _ _ _ h => h) (.inl ⟨by kernel_rfl, fun W hW => by kernel_rfl⟩) hSs ?_
  try simp only [Act.put, List.setIfInBounds_toArray, List.set_cons_zero, List.set_cons_succ]
  refine wpAnyH_ready (rs := [6]) (by kernel_rfl) (by simp) (AllReadyH.cons rfl (fun K hK => ?_) AllReadyH.nil)
  go_simp
  refine (HC.out _ hd0).mono ?_
  rintro e u1 ⟨rfl, hd1⟩
  refine hK.out _ _ (HS.out _ hd1) (fun hS1 => ?_)
  clear hK K
  try simp only [Act.put, List.setIfInBounds_toArray, List.set_cons_zero, List.set_cons_succ]
  refine wpAnyH_take (i := 7) (oi := ⟨some 111, _, _, _, _, _⟩) (v := .string (S ++ (⟨#[32]⟩ : ByteArray))) rfl (by kernel_rfl) (by kernel_rfl) (by kernel_rfl) (fun _ _ _ h => h) (.inl ⟨by kernel_rfl, fun W hW => by first | (obtain ⟨z0, z1, z2, z3, z4, z5, z6, z7, z8, z9, z10, z11⟩ := hW; go_simp; done) | (obtain ⟨z0, z1, z2, z3, z4, z5, z6, z7, z8, z9, z10, z11⟩ := hW; go_simp; omega) | (obtain ⟨z0, z1, z2, z3, z4, z5, z6, z7, z8, z9, z10, z11⟩ := hW; go_simp; simp [*]; done)⟩) hS1 ?_
  try simp only [Act.put, List.setIfInBounds_toArray, List.set_cons_zero, List.set_cons_succ]
  refine wpAnyH_take (i := 10) (oi := ⟨some 114, _, _, _, _, _⟩) (v := .string ((S ++ (⟨#[32]⟩ : ByteArray)) ++ s)) rfl (by kernel_rfl) (by kernel_rfl) (by kernel_rfl) (fun _ _ _ h => h) (.inl ⟨by kernel_rfl, fun W hW => by first | (obtain ⟨z0, z1, z2, z3, z4, z5, z6, z7, z8, z9, z10, z11⟩ := hW; go_simp; done) | (obtain ⟨z0, z1, z2, z3, z4, z5, z6, z7, z8, z9, z10, z11⟩ := hW; go_simp; omega) | (obtain ⟨z0, z1, z2, z3, z4, z5, z6, z7, z8, z9, z10, z11⟩ := hW; go_simp; simp [*]; done)⟩) hS1 ?_
  try simp only [Act.put, List.setIfInBounds_toArray, List.set_cons_zero, List.set_cons_succ]
  refine wpAnyH_take (i := 11) (oi := ⟨some 115, _, _, _, _, _⟩) (v := .string (((S ++ (⟨#[32]⟩ : ByteArray)) ++ s) ++ (⟨#[32]⟩ : ByteArray))) rfl (by kernel_rfl) (by kernel_rfl) (by kernel_rfl) (fun _ _ _ h => h) (.inl ⟨by kernel_rfl, fun W hW => by first | (obtain ⟨z0, z1, z2, z3, z4, z5, z6, z7, z8, z9, z10, z11⟩ := hW; go_simp; done) | (obtain ⟨z0, z1, z2, z3, z4, z5, z6, z7, z8, z9, z10, z11⟩ := hW; go_simp; omega) | (obtain ⟨z0, z1, z2, z3, z4, z5, z6, z7, z8, z9, z10, z11⟩ := hW; go_simp; simp [*]; done)⟩) hS1 ?_
  try simp only [Act.put, List.setIfInBounds_toArray, List.set_cons_zero, List.set_cons_succ]
  refine wpAnyH_ready (rs := [18]) (by kernel_rfl) (by simp) (AllReadyH.cons rfl (fun K hK => ?_) AllReadyH.nil)
  go_simp
  refine (HD.out _ hd1).mono ?_
  rintro e u2 ⟨rfl, hd2⟩
  refine hK.out _ _ (HS.out _ hd2) (fun hS2 => ?_)
  clear hK K
  try simp only [Act.put, List.setIfInBounds_toArray, List.set_cons_zero, List.set_cons_succ]
  refine wpAnyH_take (i := 19) (oi := ⟨some 123, _, _, _, _, _⟩) (v := .string ((((S ++ (⟨#[32]⟩ : ByteArray)) ++ s) ++ (⟨#[32]⟩ : ByteArray)) ++ Z)) rfl (by kernel_rfl) (by kernel_rfl) (by kernel_rfl) (fun _ _ _ h => h) (.inl ⟨by kernel_rfl, fun W hW => by first | (obtain ⟨z0, z1, z2, z3, z4, z5, z6, z7, z8, z9, z10, z11⟩ := hW; go_simp; done) | (obtain ⟨z0, z1, z2, z3, z4, z5, z6, z7, z8, z9, z10, z11⟩ := hW; go_simp; omega) | (obtain ⟨z0, z1, z2, z3, z4, z5, z6, z7, z8, z9, z10, z11⟩ := hW; go_simp; simp [*]; done)⟩) hS2 ?_
  try simp only [Act.put, List.setIfInBounds_toArray, List.set_cons_zero, List.set_cons_succ]
  refine wpAnyH_take (i := 20) (oi := ⟨some 2, _, _, _, _, _⟩) (v := .string ((((S ++ (⟨#[32]⟩ : ByteArray)) ++ s) ++ (⟨#[32]⟩ : ByteArray)) ++ Z)) rfl (by kernel_rfl) (by kernel_rfl) (by kernel_rfl) (fun _ _ _ h => h) (.inl ⟨by kernel_rfl, fun W hW => by kernel_rfl⟩) hS2 ?_
  try simp only [Act.put, List.setIfInBounds_toArray, List.set_cons_zero, List.set_cons_succ]
  refine wpAnyH_done (by kernel_rfl) ?_ _
  go_wp2_with fail
  go_ret
  refine ⟨?_, HZ.out.trans (hd2.mono (Nat.le_of_lt HLS.out))⟩
  show Ending.returned (Value.string (_ ++ Z)) = _
  congr 2
  apply ByteArray.ext
  apply Array.toList_inj.1
  simp [eS2, eZ2]
end Lx
end Go.Proofs.YteabbkhlgnoliaaGreatDoor
namespace Go.Proofs.YteabbkhlgnoliaaGreatDoor
open Go.RowKit
namespace Lx
set_option maxRecDepth 100000
/-- Parts' texts, a blank ahead of each. -/
def tailS (l : List Tr) : List UInt8 := (l.map fun t => 32 :: parS 5 (levelT t, showT t)).flatten
theorem tailS_append (a b : List Tr) : tailS (a ++ b) = tailS a ++ tailS b := by simp [tailS]
theorem tailS_snoc (l : List Tr) (t : Tr) : tailS (l ++ [t]) = tailS l ++ 32 :: parS 5 (levelT t, showT t) := by simp [tailS]
theorem tailS_take (l : List Tr) (i : Nat) (hi : i < l.length) : tailS (l.take (i + 1)) = tailS (l.take i) ++ 32 :: parS 5 (levelT (l[i]'hi), showT (l[i]'hi)) := by
  rw [List.take_succ_eq_append_getElem hi, tailS_snoc]
theorem tailS_le (l : List Tr) (i : Nat) : (tailS (l.take i)).length ≤ (tailS l).length := by
  conv => rhs; rw [← List.take_append_drop i l]
  rw [tailS_append, List.length_append]
  omega
theorem join_tail (a : List UInt8) : ∀ l : List (List UInt8), joinS (a :: l) = a ++ (l.map (fun x => 32 :: x)).flatten
  | [] => by simp [joinS]
  | b :: r => by rw [joinS, join_tail b r]; simp
theorem showL_map : ∀ l : List Tr, showL false l = l.map fun t => (levelT t, showT t)
  | [] => rfl
  | t :: r => by rw [showL, showL_map r]; rfl
theorem show_wds (k n a : Int) (s : ByteArray) (l : List Tr) (hk : k = 1 ∨ k = 6) (h1 : k = 1 → l = []) : showT (.node k s n a l) = s.data.toList ++ tailS l := by
  rcases hk with rfl | rfl
  · rw [h1 rfl, showT]
    simp [wordsN, joinS, tailS]
  · rw [showT]
    simp only [wordsN, show ((6 : Int) = 1) = False from by simp, show ((6 : Int) = 9) = False from by simp, show ((6 : Int) = 2) = False from by simp, show ((6 : Int) = 4) = False from by simp, show ((6 : Int) = 5) = False from by simp, show ((6 : Int) = 7) = False from by simp, show ((6 : Int) = 8) = False from by simp, show ((6 : Int) = 10) = False from by simp, show ((6 : Int) = 3) = False from by simp, if_false, if_true, decide_false]
    rw [join_tail, showL_map, List.map_map, List.map_map]
    rfl
set_option maxHeartbeats 4000000 in
theorem rtx_wds (k n a : Int) (s : ByteArray) (l : List Tr) (A : Option Addr) (c : Nat) (w : World) (hk : k = 1 ∨ k = 6) (h1 : k = 1 → l = []) (hI : TIn w Any (.node k s n a l) A) (hlen : (showT (.node k s n a l)).length ≤ 1000000)
    (hv : ∀ u ∈ l, LvOk u) (hp : ∀ u ∈ l, ∀ A' c', TIn w Any u A' → RTx w u A' c') : RTx w (.node k s n a l) A c := by
  intro W hW
  rw [show_wds k n a s l hk h1] at hlen ⊢
  have hsz : s.data.toList.length = s.size := by simp
  have hlen2 : s.size + (tailS l).length ≤ 1000000 := by rw [List.length_append] at hlen; omega
  have hm0 : l.length ≤ 1000000 := by
    have : l.length ≤ (tailS l).length := by
      clear hlen hlen2 hv hp hI h1
      induction l with
      | nil => simp
      | cons t r ih => simp only [tailS, List.map_cons, List.flatten_cons, List.length_append, List.length_cons] at ih ⊢; omega
    omega
  have HT := Lib.hid (fun i => tailS_le l i)
  have HTK := Lib.hid (fun i hi => tailS_take l i hi)
  have HV := Lib.hid hv
  have HP := Lib.hid hp
  have HI := Lib.hid hI
  clear hlen hv hp hI h1
  simp only [tv, Tr.kind, Tr.name, Tr.n, Tr.place, Tr.parts]
  generalize capF l.length c = c
  obtain ⟨m, hm⟩ : ∃ m, m = l.length := ⟨_, rfl⟩
  rw [← hm] at hm0 ⊢
  obtain ⟨O, hO⟩ : ∃ O, O = Obj.cells #[.int .i64 k, .string s, .int .i64 n, .int .i64 a, .slice A m c] 24 := ⟨_, rfl⟩
  have hL : Lies (W.alloc O) W.heap.size 24 #[.int .i64 k, .string s, .int .i64 n, .int .i64 a, .slice A m c] := by
    rw [hO]
    exact Lies.new _ _ _
  have hz : Below W.heap.size W (W.alloc O) := (Below.refl _ W).alloc (Nat.le_refl _) _
  have hls : W.heap.size < (W.alloc O).heap.size := hL.lt
  have HB4 : Hid (∀ V, Below (W.alloc O).heap.size (W.alloc O) V → V.cell? ⟨W.heap.size, 4, none⟩ = some (.slice A m c)) := Lib.hid fun V h => (hL.below h hls).cell 4
  have HZ : Hid (∀ V, Below (W.alloc O).heap.size (W.alloc O) V → Below W.heap.size W V) := Lib.hid fun V h => hz.trans (h.mono (Nat.le_of_lt hls))
  have HW := Lib.hid hW
  have HM := Lib.hid hm
  have hm1 : m ≤ l.length := by omega
  have hm2 : l.length ≤ m := by omega
  have HSZ := Lib.hid hsz
  clear hz hls hL hW hm hsz
  rcases hk with rfl | rfl
  all_goals
    go_enter Tryz.func34, Tryz.ntmps34
    go_wp2_with fail
    rw [← hO]
    obtain ⟨W5, hW5⟩ : ∃ X, X = W.alloc O := ⟨_, rfl⟩
    rw [← hW5] at HB4 HZ ⊢
    clear hW5 hO
    go_loopw [4, 5] (fun x y wr => ∃ (i : Nat) (X : ByteArray), i ≤ m ∧ y = .int .i64 i ∧ x = .string X ∧ X.data.toList = s.data.toList ++ tailS (l.take i) ∧ Below W5.heap.size W5 wr) (fun _ y _ => m - (intOf y).toNat)
    case atStart => exact ⟨0, s, by omega, rfl, rfl, by simp [tailS], Below.refl _ _⟩
    case round =>
      obtain ⟨i, X, hi, rfl, rfl, hX, hbw⟩ := hrel
      have b4 := HB4.out wr hbw
      have HX := Lib.hid hX
      have HBW := Lib.hid hbw
      have hsx : X.size = s.size + (tailS (l.take i)).length := by
        have h9 : X.data.toList.length = X.size := by simp
        rw [← h9, hX, List.length_append, HSZ.out]
      have hti := HT.out i
      clear hX
      by_cases hlt : i < m
      · have hia : i < l.length := by omega
        have htk := HTK.out i hia
        have ht1 := HT.out (i + 1)
        have htl : (tailS (l.take (i + 1))).length = (tailS (l.take i)).length + 1 + (parS 5 (levelT (l[i]'hia), showT (l[i]'hia))).length := by
          rw [htk]; simp; omega
        have hle := (len_parS 5 (levelT (l[i]'hia), showT (l[i]'hia))).1
        simp only at hle
        obtain ⟨g, o, k1, s1, n1, a1, A1, m1, c1, hA, hgW, q0, q1, q2, q3, q4, -, -, HXA⟩ := rpart2 HI.out i hia (HW.out.trans ((HZ.out wr hbw).mono HW.out.size)) HP.out (HV.out _ (List.getElem_mem hia)) (by simp only [Tr.parts]; omega)
        subst hA
        have HXA := HXA 5
        simp only [Tr.parts] at HXA
        obtain ⟨T, hT⟩ : ∃ T, T = parS 5 (levelT (l[i]'hia), showT (l[i]'hia)) := ⟨_, rfl⟩
        rw [← hT] at HXA htk htl
        obtain ⟨S, eS2, eS3, hS⟩ := str_of T
        simp only [AxV, hS] at HXA
        have HXA := Lib.hid (HXA wr (Below.refl _ _))
        have HTK9 := Lib.hid htk
        have hb1 : ¬ 9223372036854775807 < 1 + S.size := by omega
        have hb2 : ¬ 9223372036854775807 < X.size + (1 + S.size) := by omega
        clear hT hS htk htl hle ht1 hti hbw
        go_wp2_with fail
        refine HXA.out.mono ?_
        rintro e w2 ⟨rfl, hb2⟩
        go_wp2_with fail
        go_roundw
        case rel =>
          refine ⟨i + 1, _, by omega, by go_num, rfl, ?_, HBW.out.trans (hb2.mono HBW.out.size)⟩
          rw [HTK9.out]
          simp [HX.out, eS2]
        case measure => simp [intOf]; omega
      · clear hti hsx
        go_wp2_with fail
        go_ret
        obtain rfl : i = m := by omega
        refine ⟨?_, HZ.out _ HBW.out⟩
        have h9 := HX.out
        rw [List.take_of_length_le (by omega)] at h9
        rw [← h9]
        show Ending.returned (Value.string X) = _
        congr 2
end Lx
end Go.Proofs.YteabbkhlgnoliaaGreatDoor
namespace Go.Proofs.YteabbkhlgnoliaaGreatDoor
open Go.RowKit
namespace Lx
set_option maxRecDepth 100000
/-- Names, a blank ahead of each. -/
def nmsS (l : List Tr) : List UInt8 := (l.map fun v => 32 :: v.name.data.toList).flatten
theorem nmsS_append (a b : List Tr) : nmsS (a ++ b) = nmsS a ++ nmsS b := by simp [nmsS]
theorem nmsS_take (l : List Tr) (i : Nat) (hi : i < l.length) : nmsS (l.take (i + 1)) = nmsS (l.take i) ++ 32 :: (l[i]'hi).name.data.toList := by
  rw [List.take_succ_eq_append_getElem hi, nmsS_append]; simp [nmsS]
theorem nmsS_le (l : List Tr) (i : Nat) : (nmsS (l.take i)).length ≤ (nmsS l).length := by
  conv => rhs; rw [← List.take_append_drop i l]
  rw [nmsS_append, List.length_append]
  omega
/-- The text of an alternative of so many variables. -/
def altS (u : Tr) (N : Nat) : List UInt8 := u.name.data.toList ++ nmsS (u.parts.take N) ++ [32, 45, 62, 32] ++ (match u.parts[N]? with | some v => showT v | none => [])
/-- The texts of alternatives. -/
def casS : Bool → List Tr → List UInt8
  | _, [] => []
  | b, u :: r => (if b then [] else [32, 124]) ++ 32 :: showT u ++ casS false r
theorem casS_snoc : ∀ (b : Bool) (l : List Tr) (u : Tr), casS b (l ++ [u]) = casS b l ++ (if b && decide (l.length = 0) then [] else [32, 124]) ++ 32 :: showT u
  | b, [], u => by cases b <;> simp [casS]
  | b, v :: r, u => by
    rw [List.cons_append, casS, casS_snoc false r u, casS]
    simp
theorem casS_take (l : List Tr) (i : Nat) (hi : i < l.length) : casS true (l.take (i + 1)) = casS true (l.take i) ++ (if i = 0 then [] else [32, 124]) ++ 32 :: showT (l[i]'hi) := by
  rw [List.take_succ_eq_append_getElem hi, casS_snoc]
  simp [List.length_take, Nat.min_eq_left (Nat.le_of_lt hi)]
theorem casS_app : ∀ (b : Bool) (l m : List Tr), ∃ X, casS b (l ++ m) = casS b l ++ X
  | b, [], m => ⟨_, rfl⟩
  | b, v :: r, m => by
    obtain ⟨X, h⟩ := casS_app false r m
    exact ⟨X, by rw [List.cons_append, casS, h, casS]; simp⟩
theorem casS_le (l : List Tr) (i : Nat) : (casS true (l.take i)).length ≤ (casS true l).length := by
  obtain ⟨X, h⟩ := casS_app true (l.take i) (l.drop i)
  rw [List.take_append_drop] at h
  rw [h, List.length_append]
  omega
theorem join_alt : ∀ (l : List Tr) (sg : List UInt8), (∀ u ∈ l, (0 : Int) ≤ levelT u) → l ≠ [] → joinS (altW sg (l.map fun t => (levelT t, showT t)) ++ [[125]]) = sg ++ casS true l ++ [32, 125]
  | [], _, _, h => absurd rfl h
  | [u], sg, hu, _ => by
    have h0 := hu u (by simp)
    simp [altW, joinS, casS, parS, h0]
  | u :: v :: r, sg, hu, _ => by
    have h0 := hu u (by simp)
    have ih := join_alt (v :: r) [124] (fun x hx => hu x (by simp at hx ⊢; exact .inr hx)) (by simp)
    rw [List.map_cons, altW, List.cons_append, List.cons_append]
    have hne : ∃ a b, altW [124] ((v :: r).map fun t => (levelT t, showT t)) ++ [[125]] = a :: b := ⟨_, _, rfl⟩
    obtain ⟨a, b, hab⟩ := hne
    rw [hab] at ih ⊢
    rw [joinS, joinS, ih]
    simp [parS, h0, casS]
theorem show_case (n a : Int) (s : ByteArray) (p0 : Tr) (ls : List Tr) (hl : ls ≠ []) : showT (.node 7 s n a (p0 :: ls)) = [99, 97, 115, 101, 32] ++ showT p0 ++ [32, 111, 102, 32, 123] ++ casS true ls ++ [32, 125] := by
  have h := join_alt ls [123] (fun u _ => level_nn u) hl
  rw [showT]
  simp only [wordsN, show ((7 : Int) = 1) = False from by simp, show ((7 : Int) = 9) = False from by simp, show ((7 : Int) = 2) = False from by simp, show ((7 : Int) = 4) = False from by simp, show ((7 : Int) = 5) = False from by simp, show ((7 : Int) = 3) = False from by simp, if_false, if_true, decide_false]
  rw [showL, List.drop_succ_cons, List.drop_zero, showL_map]
  have h9 : (altW [123] (ls.map fun t => (levelT t, showT t)) ++ [[125]]) ≠ [] := by simp
  obtain ⟨x, y, hxy⟩ := List.exists_cons_of_ne_nil h9
  simp only [List.cons_append, List.nil_append]
  rw [hxy] at h ⊢
  rw [joinS, joinS, joinS, h]
  simp [atD, parS, level_nn]
set_option maxHeartbeats 8000000 in
theorem rcases_any (n a : Int) (s : ByteArray) (p0 : Tr) (ls : List Tr) (A : Option Addr) (c M : Nat) (w : World) (hM : M = ls.length) (hM1 : ls ≠ []) (hM9 : M ≤ 50) (hI : TIn w Any (.node 7 s n a (p0 :: ls)) A) (hlen : (showT (.node 7 s n a (p0 :: ls))).length ≤ 1000000)
    (hal : ∀ u ∈ ls, ∃ N : Nat, N ≤ 8 ∧ u.n = (N : Int) ∧ u.parts.length = N + 1 ∧ showT u = altS u N) (hp0 : ∀ A' c', TIn w Any p0 A' → RTx w p0 A' c')
    (hpu : ∀ u ∈ ls, ∀ v ∈ u.parts, ∀ A' c', TIn w Any v A' → RTx w v A' c') (W : World) (hW : Below w.heap.size w W) :
    Calls Tryz.prog 61 #[.agg #[.int .i64 7, .string s, .int .i64 n, .int .i64 a, .slice A (M + 1) c]] W fun e w' => e = .returned (.string ⟨(showT (.node 7 s n a (p0 :: ls))).toArray⟩) ∧ Below W.heap.size W w' := by
  rw [show_case n a s p0 ls hM1] at hlen ⊢
  have hlen2 : 12 + (showT p0).length + (casS true ls).length ≤ 1000000 := by simp at hlen; omega
  rw [TIn] at hI
  have hI := hI.2.2
  have h00 := LIn.at_ (p0 :: ls) hI 0 (by simp)
  obtain ⟨g, o, A0, c0, ⟨rfl, _⟩, q0, q1, q2, q3, q4, ht⟩ := h00
  simp only [List.getElem_cons_zero, Nat.zero_mul, Nat.add_zero] at q0 q1 q2 q3 q4 ht
  have hg : g < w.heap.size := cell_lt q0
  have hgW := Nat.lt_of_lt_of_le hg hW.size
  have HX := hp0 _ c0 ht
  have hMa : M ≤ ls.length := by omega
  have hMb : ls.length ≤ M := by omega
  clear hM
  have HP := fun (i : Nat) (hi : i < M) => LIn.at_ (p0 :: ls) hI (i + 1) (by simp; omega)
  simp only [List.getElem_cons_succ, Nat.zero_add] at HP
  clear hI hlen hp0 ht hM1
  have q0 := (hW.cell hg).trans q0
  have q1 := (hW.cell hg).trans q1
  have q2 := (hW.cell hg).trans q2
  have q3 := (hW.cell hg).trans q3
  have q4 := (hW.cell hg).trans q4
  simp only [RTx, tv] at HX
  obtain ⟨k1, hk1⟩ : ∃ x, x = p0.kind := ⟨_, rfl⟩
  obtain ⟨s1, hs1⟩ : ∃ x, x = p0.name := ⟨_, rfl⟩
  obtain ⟨n1, hn1⟩ : ∃ x, x = p0.n := ⟨_, rfl⟩
  obtain ⟨a1, ha1⟩ : ∃ x, x = p0.place := ⟨_, rfl⟩
  obtain ⟨m1, hm1⟩ : ∃ x, x = p0.parts.length := ⟨_, rfl⟩
  rw [← hk1] at q0 HX
  rw [← hs1] at q1 HX
  rw [← hn1] at q2 HX
  rw [← ha1] at q3 HX
  rw [← hm1] at q4 HX
  obtain ⟨T, hT⟩ : ∃ T, T = showT p0 := ⟨_, rfl⟩
  rw [← hT] at hlen2 HX ⊢
  clear hk1 hs1 hn1 ha1 hm1 hT
  obtain ⟨S, eS2, eS3, hS⟩ := str_of T
  simp only [hS] at HX
  obtain ⟨O, hO⟩ : ∃ O, O = Obj.cells #[.int .i64 7, .string s, .int .i64 n, .int .i64 a, .slice (some ⟨g, o, none⟩) (M + 1) c] 24 := ⟨_, rfl⟩
  have hL : Lies (W.alloc O) W.heap.size 24 #[.int .i64 7, .string s, .int .i64 n, .int .i64 a, .slice (some ⟨g, o, none⟩) (M + 1) c] := by
    rw [hO]
    exact Lies.new _ _ _
  have hz : Below W.heap.size W (W.alloc O) := (Below.refl _ W).alloc (Nat.le_refl _) _
  have hls : W.heap.size < (W.alloc O).heap.size := hL.lt
  have HX1 := Lib.hid (HX (W.alloc O) (hW.trans (hz.mono hW.size)))
  have HB4 : Hid (∀ V, Below (W.alloc O).heap.size (W.alloc O) V → V.cell? ⟨W.heap.size, 4, none⟩ = some (.slice (some ⟨g, o, none⟩) (M + 1) c)) := Lib.hid fun V h => (hL.below h hls).cell 4
  have HZ : Hid (∀ V, Below (W.alloc O).heap.size (W.alloc O) V → Below W.heap.size W V) := Lib.hid fun V h => hz.trans (h.mono (Nat.le_of_lt hls))
  have HW := Lib.hid hW
  have HAL := Lib.hid hal
  have HPU := Lib.hid hpu
  have HP := Lib.hid HP
  have HTK := Lib.hid (fun i hi => casS_take ls i hi)
  have HLE := Lib.hid (fun i => casS_le ls i)
  have hb1 : ¬ 9223372036854775807 < 5 + S.size := by omega
  have hb2 : ¬ 9223372036854775807 < 5 + S.size + 5 := by omega
  clear hz hL hW HX hal hpu hg hS
  rw [hO] at HX1
  go_enter Tryz.func61, Tryz.ntmps61
  go_wp2_with fail
  refine HX1.out.mono ?_
  rintro e W6 ⟨rfl, hb6⟩
  rw [← hO] at hb6
  obtain ⟨W5, hW5⟩ : ∃ X, X = W.alloc O := ⟨_, rfl⟩
  rw [← hW5] at HB4 HZ hb6 hls
  clear HX1 q0 q1 q2 q3 q4 hW5 hO hgW
  go_wp2_with fail
  go_loopw [3, 4] (fun x y wr => ∃ (i : Nat) (X : ByteArray), i ≤ M ∧ y = .int .i64 ((i : Int) + 1) ∧ x = .string X ∧ X.data.toList = [99, 97, 115, 101, 32] ++ T ++ [32, 111, 102, 32, 123] ++ casS true (ls.take i) ∧ Below W5.heap.size W5 wr) (fun _ y _ => M + 1 - (intOf y).toNat)
  case atStart => exact ⟨0, _, by omega, rfl, rfl, by simp [casS, eS2], hb6⟩
  case round =>
    obtain ⟨i, X, hi, rfl, rfl, hX, hbw⟩ := hrel
    have b4 := HB4.out wr hbw
    have HXX := Lib.hid hX
    have HBW := Lib.hid hbw
    have hsx : X.size = 10 + T.length + (casS true (ls.take i)).length := by
      have h9 : X.data.toList.length = X.size := by simp
      rw [← h9, hX]
      simp
      omega
    have hti := HLE.out i
    clear hX
    by_cases hlt : i < M
    · have hia : i < ls.length := by omega
      obtain ⟨g', o', A', c', ⟨e, _⟩, k0, k1, k2, k3, k4, kt⟩ := HP.out i hlt
      simp only [Option.some.injEq, Addr.mk.injEq, and_true] at e
      obtain ⟨rfl, rfl⟩ := e
      have hmem : ls[i]'hia ∈ ls := List.getElem_mem hia
      have hal := HAL.out _ hmem
      have hpu := HPU.out _ hmem
      have htk := HTK.out i hia
      have ht1 := HLE.out (i + 1)
      obtain ⟨u, hu⟩ : ∃ u, u = ls[i]'hia := ⟨_, rfl⟩
      rw [← hu] at k0 k1 k2 k3 k4 kt hal hpu htk
      obtain ⟨N, hN8, hN, hlN, hsh⟩ := hal
      have hww : Below w.heap.size w wr := HW.out.trans ((HZ.out wr hbw).mono HW.out.size)
      have hgw := cell_lt k0
      have hc : ∀ b j, b < w.heap.size → wr.cell? ⟨b, j, none⟩ = w.cell? ⟨b, j, none⟩ := fun b j h => hww.cell (p := ⟨b, j, none⟩) h
      have hpn := TIn.part kt N (by omega)
      obtain ⟨g2, o2, A2, c2, ⟨rfl, _⟩, v0, v1, v2, v3, v4, vt⟩ := hpn
      have HNM : Hid (∀ (j : Nat) (hj : j < u.parts.length), wr.cell? ⟨g2, o2 + j * 5 + 1, none⟩ = some (.string (u.parts[j]'hj).name)) := Lib.hid fun j hj => by
        obtain ⟨g3, o3, A3, c3, ⟨e3, _⟩, _, z1, _⟩ := TIn.part kt j hj
        simp only [Option.some.injEq, Addr.mk.injEq, and_true] at e3
        obtain ⟨rfl, rfl⟩ := e3
        rw [hc _ _ (cell_lt z1)]
        exact z1
      have hbody := hpu _ (List.getElem_mem (show N < u.parts.length by omega)) A2 c2 vt
      have hsb : altS u N = u.name.data.toList ++ nmsS (u.parts.take N) ++ [32, 45, 62, 32] ++ showT (u.parts[N]'(by omega)) := by
        unfold altS
        rw [List.getElem?_eq_getElem (by omega)]
      rw [hsh, hsb] at htk
      have HNT := Lib.hid (fun j hj => nmsS_take u.parts j hj)
      have HNE := Lib.hid (fun j => nmsS_le u.parts j)
      have hnN := HNE.out N
      rw [← hc _ _ hgw] at k0 k1 k2 k3 k4
      have hg2w := cell_lt v0
      rw [← hc _ _ hg2w] at v0 v1 v2 v3 v4
      rw [hN] at k2
      rw [hlN] at k4
      have hg2 : g2 < wr.heap.size := cell_lt v0
      have hgr : g < wr.heap.size := cell_lt k0
      simp only [RTx, tv] at hbody
      obtain ⟨kb, hkb⟩ : ∃ x, x = (u.parts[N]'(by omega)).kind := ⟨_, rfl⟩
      obtain ⟨sb, hsbb⟩ : ∃ x, x = (u.parts[N]'(by omega)).name := ⟨_, rfl⟩
      obtain ⟨nb, hnb⟩ : ∃ x, x = (u.parts[N]'(by omega)).n := ⟨_, rfl⟩
      obtain ⟨ab, hab⟩ : ∃ x, x = (u.parts[N]'(by omega)).place := ⟨_, rfl⟩
      obtain ⟨mb, hmb⟩ : ∃ x, x = (u.parts[N]'(by omega)).parts.length := ⟨_, rfl⟩
      obtain ⟨TB, hTB⟩ : ∃ x, x = showT (u.parts[N]'(by omega)) := ⟨_, rfl⟩
      rw [← hkb] at v0 hbody
      rw [← hsbb] at v1 hbody
      rw [← hnb] at v2 hbody
      rw [← hab] at v3 hbody
      rw [← hmb] at v4 hbody
      rw [← hTB] at hbody htk
      obtain ⟨SB, eB2, eB3, hSB⟩ := str_of TB
      rw [hSB] at hbody
      obtain ⟨ku, hku⟩ : ∃ x, x = u.kind := ⟨_, rfl⟩
      obtain ⟨nm, hnm⟩ : ∃ x, x = u.name := ⟨_, rfl⟩
      obtain ⟨au, hau⟩ : ∃ x, x = u.place := ⟨_, rfl⟩
      rw [← hku] at k0
      rw [← hnm] at k1 htk
      rw [← hau] at k3
      have hnmz : nm.data.toList.length = nm.size := by simp
      obtain ⟨Q, hQ⟩ : ∃ Q : List UInt8, Q = (if i = 0 then [] else [32, 124]) := ⟨_, rfl⟩
      rw [← hQ] at htk
      have hQ2 : Q.length ≤ 2 := by rw [hQ]; split <;> simp
      have hszz : (casS true (ls.take i)).length + Q.length + 1 + nm.size + (nmsS (u.parts.take N)).length + 4 + SB.size ≤ (casS true ls).length := by
        have := ht1
        rw [htk] at this
        simp only [List.length_append, List.length_cons, List.length_nil] at this
        omega
      obtain ⟨O2, hO2⟩ : ∃ O, O = Obj.cells #[.int .i64 ku, .string nm, .int .i64 (N : Int), .int .i64 au, .slice (some ⟨g2, o2, none⟩) (N + 1) (capF (N + 1) c')] 24 := ⟨_, rfl⟩
      have hL2 : Lies (wr.alloc O2) wr.heap.size 24 #[.int .i64 ku, .string nm, .int .i64 (N : Int), .int .i64 au, .slice (some ⟨g2, o2, none⟩) (N + 1) (capF (N + 1) c')] := by
        rw [hO2]
        exact Lies.new _ _ _
      have hz2 : Below wr.heap.size wr (wr.alloc O2) := (Below.refl _ wr).alloc (Nat.le_refl _) _
      have HBV := Lib.hid (hbw.trans (hz2.mono hbw.size))
      have HBD := Lib.hid (hbody (wr.alloc O2) (hww.trans (hz2.mono hww.size)))
      have HN2 : Hid (∀ (j : Nat) (hj : j < u.parts.length), (wr.alloc O2).cell? ⟨g2, o2 + j * 5 + 1, none⟩ = some (.string (u.parts[j]'hj).name)) := Lib.hid fun j hj => (hz2.cell (p := ⟨g2, _, none⟩) hg2).trans (HNM.out j hj)
      have HV5 : Hid ((wr.alloc O2).cell? ⟨g2, o2 + N * 5, none⟩ = some (.int .i64 kb) ∧ (wr.alloc O2).cell? ⟨g2, o2 + N * 5 + 1, none⟩ = some (.string sb) ∧ (wr.alloc O2).cell? ⟨g2, o2 + N * 5 + 2, none⟩ = some (.int .i64 nb) ∧ (wr.alloc O2).cell? ⟨g2, o2 + N * 5 + 3, none⟩ = some (.int .i64 ab) ∧ (wr.alloc O2).cell? ⟨g2, o2 + N * 5 + 4, none⟩ = some (.slice A2 mb (capF mb c2))) :=
        Lib.hid ⟨(hz2.cell (p := ⟨g2, _, none⟩) hg2).trans v0, (hz2.cell (p := ⟨g2, _, none⟩) hg2).trans v1, (hz2.cell (p := ⟨g2, _, none⟩) hg2).trans v2, (hz2.cell (p := ⟨g2, _, none⟩) hg2).trans v3, (hz2.cell (p := ⟨g2, _, none⟩) hg2).trans v4⟩
      have HL2 := Lib.hid hL2
      have HTK9 := Lib.hid htk
      have HQ := Lib.hid hQ
      have hb3 : ¬ 9223372036854775807 < X.size + 2 := by omega
      have hb4 : ¬ 9223372036854775807 < 1 + nm.size := by omega
      have hb5 : ¬ 9223372036854775807 < X.size + 2 + (1 + nm.size) := by omega
      have hb6 : ¬ 9223372036854775807 < X.size + (1 + nm.size) := by omega
      have hlN2 : N < u.parts.length := by omega
      have hbs := hbw.size
      have hcap : (N : Int) + 1 ≤ ((capF (N + 1) c' : Nat) : Int) := by have := le_capF (N + 1) c'; omega
      clear HTK HLE HAL HPU HP hpu hsh hsb hN hlN hc hww hbw hz2 hL2 hbody kt vt v0 v1 v2 v3 v4 hkb hsbb hnb hab hmb hTB hSB hku hnm hau htk hQ ht1 hu hnmz hg2w hgw hmem
      by_cases h0 : (1 : Int) < (i : Int) + 1
      all_goals
        have hQ3 := HQ.out
        first | rw [if_neg (show ¬ i = 0 by omega)] at hQ3 | rw [if_pos (show i = 0 by omega)] at hQ3
        go_wp2_with fail
        rw [← hO2]
        have l2 := HL2.out
        obtain ⟨V, hV⟩ : ∃ V, V = wr.alloc O2 := ⟨_, rfl⟩
        rw [← hV] at HBV HBD HN2 HV5 l2 ⊢
        have d1 := l2.cell 1
        have d2 := l2.cell 2
        have d4 := l2.cell 4
        simp only [List.getElem?_toArray, List.getElem?_cons_zero, List.getElem?_cons_succ] at d1 d2 d4
        clear hV hO2 HL2 l2 HNM k0 k1 k2 k3 k4 b4
        go_loop [3, 6] (fun x y => ∃ (j : Nat) (Y : ByteArray), j ≤ N ∧ y = .int .i64 j ∧ x = .string Y ∧ Y.data.toList = X.data.toList ++ Q ++ 32 :: (nm.data.toList ++ nmsS (u.parts.take j))) (fun _ y => N - (intOf y).toNat)
        case atStart => exact ⟨0, _, by omega, rfl, rfl, by simp [hQ3, nmsS]⟩
        case round =>
          obtain ⟨j, Y, hj, rfl, rfl, hY⟩ := hrel
          have HY := Lib.hid hY
          have hsy : Y.size = X.size + Q.length + 1 + nm.size + (nmsS (u.parts.take j)).length := by
            have h9 : Y.data.toList.length = Y.size := by simp
            have h8 : X.data.toList.length = X.size := by simp
            rw [← h9, hY]
            simp
            omega
          have hnj := HNE.out j
          clear hY
          by_cases hjl : j < N
          · have hjl2 : j < u.parts.length := by omega
            have c1 := HN2.out j hjl2
            have hnt := HNT.out j hjl2
            have hne1 := HNE.out (j + 1)
            obtain ⟨nj, hnj'⟩ : ∃ x, x = (u.parts[j]'hjl2).name := ⟨_, rfl⟩
            rw [← hnj'] at c1 hnt
            have hnjz : nj.data.toList.length = nj.size := by simp
            have hnl : (nmsS (u.parts.take (j + 1))).length = (nmsS (u.parts.take j)).length + 1 + nj.size := by
              rw [hnt]; simp; omega
            have hmono : (nmsS (u.parts.take (j + 1))).length ≤ (nmsS (u.parts.take N)).length := by
              have h7 := nmsS_le (u.parts.take N) (j + 1)
              rw [List.take_take, Nat.min_eq_left (by omega)] at h7
              exact h7
            have hc1 : ¬ 9223372036854775807 < 1 + nj.size := by omega
            have hc2 : ¬ 9223372036854775807 < Y.size + (1 + nj.size) := by omega
            have HNT9 := Lib.hid hnt
            clear hnt hnj' hnjz hnl hmono hne1 hsy hsx hQ3 hnj
            go_wp2_with fail
            go_round
            case rel =>
              refine ⟨j + 1, _, by omega, by go_num, rfl, ?_⟩
              rw [HNT9.out]
              simp [HY.out]
            case measure => simp [intOf]; omega
          · obtain rfl : j = N := by omega
            obtain ⟨v0, v1, v2, v3, v4⟩ := HV5.out
            have hc1 : ¬ 9223372036854775807 < 4 + SB.size := by omega
            have hc2 : ¬ 9223372036854775807 < Y.size + (4 + SB.size) := by omega
            clear hsy hsx hQ3 hnj
            go_wp2_with fail
            refine HBD.out.mono ?_
            rintro e w9 ⟨rfl, hb9⟩
            clear d1 d2 d4 v0 v1 v2 v3 v4
            go_wp2_with fail
            go_roundw
            case rel =>
              refine ⟨i + 1, _, by omega, by go_num, rfl, ?_, HBV.out.trans (hb9.mono HBV.out.size)⟩
              rw [HTK9.out]
              simp [HY.out, HXX.out, eB2]
            case measure => simp [intOf]; omega
    · clear hti hsx
      obtain rfl : i = M := by omega
      have h9 := HXX.out
      rw [List.take_of_length_le (by omega)] at h9
      have hb3 : ¬ 9223372036854775807 < X.size + 2 := by
        have h8 : X.data.toList.length = X.size := by simp
        rw [← h8, h9]
        simp
        omega
      clear h9
      go_wp2_with fail
      go_ret
      refine ⟨?_, HZ.out _ HBW.out⟩
      have h9 := HXX.out
      rw [List.take_of_length_le (by omega)] at h9
      show Ending.returned (Value.string (X ++ _)) = _
      congr 2
      apply ByteArray.ext
      apply Array.toList_inj.1
      simp [h9]
end Lx
end Go.Proofs.YteabbkhlgnoliaaGreatDoor
namespace Go.Proofs.YteabbkhlgnoliaaGreatDoor
open Go.RowKit
namespace Lx
set_option maxRecDepth 100000
theorem lvok_of {t : Tr} (h : mayT t = true) : LvOk t := by
  obtain ⟨k, s, n, a, l⟩ := t
  obtain ⟨hnm, -, -, -⟩ := may_inv h
  refine levelR_levelN fun e => ?_
  have e : k = 10 := e
  subst e
  simp only [nameOkV, opV] at hnm
  simp at hnm
  show s.data.toList = _ ∨ s.data.toList = _ ∨ s.data.toList = _ ∨ s.data.toList = _ ∨ s.data.toList = _ ∨ s.data.toList = _
  simpa using hnm
theorem var_text {v : Tr} (h : mayT v = true) (hk : v.kind = 1) : parS 5 (levelT v, showT v) = v.name.data.toList := by
  obtain ⟨k, s, n, a, l⟩ := v
  have hk : k = 1 := hk
  subst hk
  obtain ⟨-, hpt, -, -⟩ := may_inv h
  simp [partsV] at hpt
  obtain ⟨rfl, -⟩ := hpt
  simp [parS, levelT, levelN, showT, wordsN, joinS, Tr.name]
theorem show_alt {s : ByteArray} {a : Int} {l : List Tr} {N : Nat} (hl : l.length = N + 1) (hv : ∀ j (_ : j < N), ∃ v, l[j]? = some v ∧ parS 5 (levelT v, showT v) = v.name.data.toList) :
    showT (.node 8 s (N : Int) a l) = altS (.node 8 s (N : Int) a l) N := by
  have hN : N < l.length := by omega
  have e1 : ∀ m, m ≤ N → (((l.map fun t => (levelT t, showT t)).take m).map (parS 5)).map (fun x => 32 :: x) = (l.take m).map (fun v => 32 :: v.name.data.toList) := by
    intro m hm
    rw [← List.map_take, List.map_map, List.map_map]
    refine List.map_congr_left fun v hvm => ?_
    obtain ⟨j, hj, hjv⟩ := List.getElem_of_mem hvm
    have hj2 : j < m := by simp at hj; omega
    obtain ⟨v', h1, h2⟩ := hv j (by omega)
    have h3 : v = v' := by
      rw [List.getElem_take] at hjv
      rw [List.getElem?_eq_getElem (by omega)] at h1
      simp only [Option.some.injEq] at h1
      rw [← hjv, h1]
    subst h3
    simp [h2]
  have e2 : atD (l.map fun t => (levelT t, showT t)) N = (levelT (l[N]'hN), showT (l[N]'hN)) := by simp [atD, List.getD, hN]
  rw [showT]
  simp only [wordsN, show ((8 : Int) = 1) = False from by simp, show ((8 : Int) = 9) = False from by simp, show ((8 : Int) = 2) = False from by simp, show ((8 : Int) = 4) = False from by simp, show ((8 : Int) = 5) = False from by simp, show ((8 : Int) = 7) = False from by simp, show ((8 : Int) = 3) = False from by simp, if_false, if_true, decide_false]
  rw [showL_map, List.cons_append, join_tail, List.map_append, Int.toNat_natCast, e1 N (Nat.le_refl _), e2]
  unfold altS nmsS
  simp [Tr.name, Tr.parts, List.getElem?_eq_getElem hN, parS, level_nn]
set_option maxHeartbeats 4000000 in
theorem rtx_case7 (n a : Int) (s : ByteArray) (A : Option Addr) (m c : Nat) (T : List UInt8) (W : World)
    (hC : Calls Tryz.prog 61 #[.agg #[.int .i64 7, .string s, .int .i64 n, .int .i64 a, .slice A m c]] (W.alloc (.cells #[.int .i64 7, .string s, .int .i64 n, .int .i64 a, .slice A m c] 24)) fun e w' => e = .returned (.string ⟨T.toArray⟩) ∧ Below (W.alloc (.cells #[.int .i64 7, .string s, .int .i64 n, .int .i64 a, .slice A m c] 24)).heap.size (W.alloc (.cells #[.int .i64 7, .string s, .int .i64 n, .int .i64 a, .slice A m c] 24)) w') :
    Calls Tryz.prog 34 #[.agg #[.int .i64 7, .string s, .int .i64 n, .int .i64 a, .slice A m c]] W fun e w' => e = .returned (.string ⟨T.toArray⟩) ∧ Below W.heap.size W w' := by
  have hb1 : Below W.heap.size W (W.alloc (.cells #[.int .i64 7, .string s, .int .i64 n, .int .i64 a, .slice A m c] 24)) := (Below.refl _ W).alloc (Nat.le_refl _) _
  have HC := Lib.hid hC
  clear hC
  go_enter Tryz.func34, Tryz.ntmps34
  go_wp2_with fail
  refine HC.out.mono ?_
  rintro e w2 ⟨rfl, hb2⟩
  go_wp2_with fail
  go_ret
  exact ⟨rfl, hb1.trans (hb2.mono (by simp))⟩
theorem rtx_all (w : World) : ∀ (d : Nat) (t : Tr), depthT t ≤ d → sizeT t ≤ 10000 → mayT t = true → t.kind ≠ 8 → ∀ A c, TIn w Any t A → RTx w t A c := by
  intro d
  induction d with
  | zero => intro t h; have := depth_pos t; omega
  | succ d ih =>
    intro t hd hsz hm hk8 A c hT
    have hlen : (showT t).length ≤ 1000000 := by have := show_len t hm; omega
    obtain ⟨k, s, n, a, ls⟩ := t
    have hk8 : k ≠ 8 := hk8
    obtain ⟨hnm, hpt, ha, hml⟩ := may_inv hm
    have hdL : depthL ls ≤ d := by rw [depthT] at hd; omega
    have hsL : sizeL ls ≤ 10000 := by rw [sizeT] at hsz; omega
    have hC : ∀ t ∈ ls, t.kind ≠ 8 → ∀ A' c', TIn w Any t A' → RTx w t A' c' := fun t ht hk A' c' h => ih t (by have := depthL_mem ls t ht; omega) (by have := sizeL_mem ls t ht; omega) (mayL_memT k n ls 0 hml t ht) hk A' c' h
    have hlv : ∀ t ∈ ls, LvOk t := fun t ht => lvok_of (mayL_memT k n ls 0 hml t ht)
    have hst : ∀ (j : Nat) (t : Tr), ls[j]? = some t → standsV k n j t.kind = true := fun j t h => by
      have := mayL_stands k n ls 0 j t hml h
      rwa [Nat.zero_add] at this
    have hns : k ≠ 7 → ∀ t ∈ ls, t.kind ≠ 8 := fun h7 t ht => by
      obtain ⟨j, hj, rfl⟩ := List.getElem_of_mem ht
      have := hst j _ (List.getElem?_eq_getElem hj)
      simpa [standsV, h7, hk8] using this
    have two : ls.length = 2 → ∃ p0 p1, ls = [p0, p1] := fun h => by
      match ls, h with
      | [p0, p1], _ => exact ⟨p0, p1, rfl⟩
    rcases (by
      by_cases h : k = 1 ∨ k = 2 ∨ k = 3 ∨ k = 4 ∨ k = 5 ∨ k = 6 ∨ k = 7 ∨ k = 9 ∨ k = 10
      · exact h
      · exfalso
        simp only [not_or] at h
        obtain ⟨e1, e2, e3, e4, e5, e6, e7, e9, e10⟩ := h
        simp [partsV, e1, e2, e3, e4, e5, e6, e7, hk8, e9, e10] at hpt : k = 1 ∨ k = 2 ∨ k = 3 ∨ k = 4 ∨ k = 5 ∨ k = 6 ∨ k = 7 ∨ k = 9 ∨ k = 10) with rfl | rfl | rfl | rfl | rfl | rfl | rfl | rfl | rfl
    · simp [partsV] at hpt
      exact rtx_wds 1 n a s ls A c w (.inl rfl) (fun _ => hpt.1) hT hlen hlv (fun u hu => hC u hu (hns (by decide) u hu))
    · simp [partsV] at hpt
      obtain ⟨p0, rfl⟩ : ∃ p0, ls = [p0] := by
        match ls, hpt.1 with
        | [p0], _ => exact ⟨p0, rfl⟩
      exact rtx_lam n a s p0 A c w hT hlen (hC p0 (by simp) (hns (by decide) p0 (by simp)))
    · simp [partsV] at hpt
      obtain ⟨p0, p1, rfl⟩ := two hpt.1
      have hs0 : s.size ≤ 1000000 := by
        have : s.data.toList = [] := by simpa [nameOkV] using hnm
        have h2 : s.data.toList.length = s.size := by simp
        rw [this] at h2
        simp at h2
        omega
      by_cases h6 : p0.kind = 6
      · exact rtx_appc n a s p0 p1 A c w hs0 h6 hT hlen (hlv p0 (by simp)) (hlv p1 (by simp)) (fun u hu => hC u hu (hns (by decide) u hu))
      · exact rtx_app n a s p0 p1 A c w hs0 h6 hT hlen (hlv p0 (by simp)) (hlv p1 (by simp)) (fun u hu => hC u hu (hns (by decide) u hu))
    · simp [partsV] at hpt
      obtain ⟨p0, p1, rfl⟩ := two hpt.1
      exact rtx_let n a s p0 p1 A c w hT hlen (fun u hu => hC u hu (hns (by decide) u hu))
    · simp [partsV] at hpt
      obtain ⟨p0, p1, rfl⟩ := two hpt.1
      exact rtx_rec n a s p0 p1 A c w hT hlen (fun u hu => hC u hu (hns (by decide) u hu))
    · exact rtx_wds 6 n a s ls A c w (.inr rfl) (fun h => by cases h) hT hlen hlv (fun u hu => hC u hu (hns (by decide) u hu))
    · simp [partsV] at hpt
      obtain ⟨p0, ls, rfl⟩ : ∃ p0 r, ls = p0 :: r := by
        match ls, hpt.1 with
        | p0 :: r, _ => exact ⟨p0, r, rfl⟩
      simp only [List.length_cons] at hpt
      have hk0 : p0.kind ≠ 8 := by
        have := hst 0 p0 rfl
        simpa [standsV] using this
      have hal : ∀ u ∈ ls, u.kind = 8 ∧ ∃ N : Nat, N ≤ 8 ∧ u.n = (N : Int) ∧ u.parts.length = N + 1 ∧ showT u = altS u N ∧ ∀ (v : Tr), u.parts[N]? = some v → v.kind ≠ 8 := fun u hu => by
        obtain ⟨j, hj, rfl⟩ := List.getElem_of_mem hu
        have h8 : (ls[j]'hj).kind = 8 := by
          have := hst (j + 1) (ls[j]'hj) (by simp [List.getElem?_eq_getElem hj])
          simpa [standsV] using this
        have hmu := mayL_memT 7 n (p0 :: ls) 0 hml (ls[j]'hj) (by simp)
        refine ⟨h8, ?_⟩
        generalize ls[j]'hj = u at h8 hmu ⊢
        obtain ⟨k', s', n', a', l'⟩ := u
        have h8 : k' = 8 := h8
        subst h8
        obtain ⟨hnm', hpt', ha', hml'⟩ := may_inv hmu
        simp [partsV] at hpt'
        obtain ⟨N, rfl⟩ : ∃ N : Nat, n' = N := ⟨n'.toNat, by omega⟩
        have hlN : l'.length = N + 1 := by omega
        refine ⟨N, by omega, rfl, hlN, show_alt hlN fun j hj => ⟨l'[j]'(by omega), List.getElem?_eq_getElem (by omega), ?_⟩, fun v hv => ?_⟩
        · refine var_text (mayL_memT 8 _ l' 0 hml' _ (List.getElem_mem _)) ?_
          have := mayL_stands 8 _ l' 0 j _ hml' (List.getElem?_eq_getElem (by omega))
          rw [Nat.zero_add] at this
          simpa [standsV, hj] using this
        · have hv : l'[N]? = some v := hv
          have := mayL_stands 8 _ l' 0 N v hml' hv
          rw [Nat.zero_add] at this
          simpa [standsV] using this
      intro W hW
      have HC := Lib.hid (fun W1 (h : Below w.heap.size w W1) => rcases_any n a s p0 ls A (capF (ls.length + 1) c) ls.length w rfl (by intro e; subst e; simp at hpt) (by omega) hT hlen (fun u hu => by
        obtain ⟨-, N, h1, h2, h3, h4, -⟩ := hal u hu
        exact ⟨N, h1, h2, h3, h4⟩) (hC p0 (by simp) hk0) (fun u hu v hv A' c' hv' => by
          obtain ⟨h8, N, h1, h2, h3, h4, h5⟩ := hal u hu
          have hmu := mayL_memT 7 n (p0 :: ls) 0 hml u (by simp [hu])
          have hdu := depthL_mem (p0 :: ls) u (by simp [hu])
          have hsu := sizeL_mem (p0 :: ls) u (by simp [hu])
          obtain ⟨k', s', n', a', l'⟩ := u
          have hmv := mayL_memT k' n' l' 0 (may_inv hmu).2.2.2 v hv
          have hdv := depthL_mem l' v hv
          have hsv := sizeL_mem l' v hv
          rw [depthT] at hdu
          rw [sizeT] at hsu
          refine ih v (by omega) (by omega) hmv ?_ A' c' hv'
          obtain ⟨j, hj, rfl⟩ := List.getElem_of_mem hv
          have h8 : k' = 8 := h8
          subst h8
          have hst' := mayL_stands 8 n' l' 0 j _ (may_inv hmu).2.2.2 (List.getElem?_eq_getElem hj)
          rw [Nat.zero_add] at hst'
          by_cases hjn : (j : Int) < n'
          · simp [standsV, hjn] at hst'
            rw [hst']; decide
          · simpa [standsV, hjn] using hst') W1 h)
      have hb1 : Below W.heap.size W (W.alloc (.cells #[.int .i64 7, .string s, .int .i64 n, .int .i64 a, .slice A (ls.length + 1) (capF (ls.length + 1) c)] 24)) := (Below.refl _ W).alloc (Nat.le_refl _) _
      exact rtx_case7 n a s A (ls.length + 1) (capF (ls.length + 1) c) (showT (.node 7 s n a (p0 :: ls))) W (HC.out _ (below_step hW hb1))
    · simp [partsV] at hpt
      exact rtx_num n a s ls A c w (by omega) (by omega)
    · simp [partsV] at hpt
      obtain ⟨p0, p1, rfl⟩ := two hpt.1
      have hop : s.data.toList = [43] ∨ s.data.toList = [45] ∨ s.data.toList = [42] ∨ s.data.toList = [47] ∨ s.data.toList = [60] ∨ s.data.toList = [61, 61] := by
        simpa [nameOkV, opV] using hnm
      have h3 : (levelS s.data.toList = 1 ∨ levelS s.data.toList = 2 ∨ levelS s.data.toList = 3) ∧ levelR 10 s.data.toList 2 = levelS s.data.toList := by
        rcases hop with h | h | h | h | h | h <;> rw [h] <;> simp [levelS, levelR]
      obtain ⟨h3, h4⟩ := h3
      rcases h3 with h | h | h
      · exact rtx_op1 n a s p0 p1 A c w (h4.trans h) h hT hlen (hlv p0 (by simp)) (hlv p1 (by simp)) (fun u hu => hC u hu (hns (by decide) u hu))
      · exact rtx_op2 n a s p0 p1 A c w (h4.trans h) h hT hlen (hlv p0 (by simp)) (hlv p1 (by simp)) (fun u hu => hC u hu (hns (by decide) u hu))
      · exact rtx_op3 n a s p0 p1 A c w (h4.trans h) h hT hlen (hlv p0 (by simp)) (hlv p1 (by simp)) (fun u hu => hC u hu (hns (by decide) u hu))
end Lx
end Go.Proofs.YteabbkhlgnoliaaGreatDoor
namespace Go.Proofs.YteabbkhlgnoliaaGreatDoor
open Go.RowKit
namespace Lx
set_option maxRecDepth 100000
set_option maxHeartbeats 4000000 in
theorem rtop_any (t : Tr) (A : Option Addr) (c : Nat) (w : World) (hI : TIn w Any t A) (hz : sizeT t ≤ 10000) :
    Calls Tryz.prog 12 #[tv t A c] w fun e w' => e = .returned (.string ⟨(textT t).toArray⟩) ∧ Below w.heap.size w w' := by
  have HM := fun (W : World) (h : Below w.heap.size w W) => rMay_any t A c W (TIn.below _ hI h (Nat.le_refl _))
  have HT : mayV t = true → RTx w t A c := fun h => by
    simp only [mayV, Bool.and_eq_true, decide_eq_true_eq] at h
    exact rtx_all w (depthT t) t (Nat.le_refl _) hz h.2 h.1 A c hI
  have HTX : Hid (∀ b : Bool, mayV t = b → textT t = if b then showT t else []) := Lib.hid fun b h => by rw [← h]; rfl
  obtain ⟨k, s, n, a, l⟩ := t
  unfold RTx at HT
  simp only [tv, Tr.kind, Tr.name, Tr.n, Tr.place, Tr.parts] at HM HT ⊢
  have HM := Lib.hid HM
  have HT := Lib.hid HT
  obtain ⟨X, hX⟩ : ∃ X, X = showT (.node k s n a l) := ⟨_, rfl⟩
  obtain ⟨Z, hZ⟩ : ∃ Z, Z = textT (.node k s n a l) := ⟨_, rfl⟩
  rw [← hX] at HT HTX
  rw [← hZ] at HTX ⊢
  obtain ⟨bb, hbb⟩ : ∃ bb, bb = mayV (.node k s n a l) := ⟨_, rfl⟩
  rw [← hbb] at HM HT HTX
  obtain ⟨m, hm⟩ : ∃ m, m = l.length := ⟨_, rfl⟩
  rw [← hm] at HM HT ⊢
  generalize capF m c = c at HM HT ⊢
  clear hX hZ hbb hI hz hm
  have hb1 : Below w.heap.size w (w.alloc (.cells #[.int .i64 k, .string s, .int .i64 n, .int .i64 a, .slice A m c] 24)) := (Below.refl _ w).alloc (Nat.le_refl _) _
  go_enter Tryz.func12, Tryz.ntmps12
  go_wp2_with fail
  refine (HM.out _ hb1).mono ?_
  rintro e w2 ⟨rfl, hb2⟩
  have hL := (Lies.new w 24 #[.int .i64 k, .string s, .int .i64 n, .int .i64 a, .slice A m c]).below hb2 (by simp)
  have hs2 := hb2.size
  rw [show (w.alloc (.cells #[.int .i64 k, .string s, .int .i64 n, .int .i64 a, .slice A m c] 24)).heap.size = w.heap.size + 1 from by simp] at hs2
  have hb3 : Below w.heap.size w w2 := hb1.trans (hb2.mono (by simp))
  cases bb with
  | false =>
    have hz := HTX.out false rfl
    simp only [Bool.false_eq_true, if_false] at hz
    subst hz
    go_wp2_with fail
    go_ret
    exact ⟨rfl, hb3⟩
  | true =>
    have hz := HTX.out true rfl
    simp only [if_true] at hz
    subst hz
    have HC := Lib.hid (HT.out rfl w2 hb3)
    have d0 := hL.cell 0
    have d1 := hL.cell 1
    have d2 := hL.cell 2
    have d3 := hL.cell 3
    have d4 := hL.cell 4
    simp at d0 d1 d2 d3 d4
    go_wp2_with fail
    refine HC.out.mono ?_
    rintro e w5 ⟨rfl, hb5⟩
    go_wp2_with fail
    go_ret
    exact ⟨rfl, hb3.trans (hb5.mono hb3.size)⟩
end Lx
end Go.Proofs.YteabbkhlgnoliaaGreatDoor
