/-
  Texts that lie one behind the other: ShowV ShowL WB WBs ShelfI Words2 Part TreeW TreeW2 TreeW3 Atoms AltC ChoiceW.
-/
import Derived.Test.YteabbkhlgnoliaaGreatDoorK3
import Derived.Test.YteabbkhlgnoliaaGreatDoorK1
import Derived.Test.YteabbkhlgnoliaaGreatDoorProg
import Derived.Lib.ItoaNum
import Derived.Shelf.Strings.BuilderK
import Derived.RegionTactic
import Derived.Shelf.LaysM
import Derived.Shelf.Strconv.Itoa3
import Derived.Deep.RegionHeld3
import Derived.StillTailTactics
import Derived.Deep.Cut
import Derived.OwnWalk
namespace Go.Proofs.YteabbkhlgnoliaaGreatDoor
namespace Lx
set_option maxRecDepth 100000
/-- A sign's level. -/
def levelS (s : List UInt8) : Int := if s == [43] || s == [45] then 2 else if s == [42] || s == [47] then 3 else 1
/-- A tree's own level. -/
def levelN (k : Int) (s : List UInt8) (m : Nat) : Int :=
  if k = 2 ∨ k = 4 ∨ k = 5 ∨ k = 7 then 0 else if k = 10 then levelS s else if k = 3 then 4 else if k = 6 then (if 0 < m then 4 else 5) else 5
def levelT : Tr → Int | .node k s _ _ l => levelN k s.data.toList l.length
/-- A text at a level. -/
def parS (lv : Int) (x : Int × List UInt8) : List UInt8 := if lv ≤ x.1 then x.2 else 40 :: x.2 ++ [41]
/-- Words, with one blank between any two. -/
def joinS : List (List UInt8) → List UInt8
  | [] => []
  | [a] => a
  | a :: b :: r => a ++ 32 :: joinS (b :: r)
def altW : List UInt8 → List (Int × List UInt8) → List (List UInt8)
  | _, [] => []
  | sg, x :: r => sg :: parS 0 x :: altW [124] r
def atD (l : List (Int × List UInt8)) (i : Nat) : Int × List UInt8 := l.getD i (0, [])
/-- The words of a tree, by its parts' texts. -/
def wordsN (k : Int) (s : List UInt8) (n : Int) (l : List (Int × List UInt8)) : List (List UInt8) :=
  if k = 1 then [s] else if k = 9 then [Lib.itoa n]
  else if k = 2 then [92 :: s ++ [46], parS 0 (atD l 0)]
  else if k = 4 then [[108, 101, 116], s, [61], parS 0 (atD l 0), [105, 110], parS 0 (atD l 1)]
  else if k = 5 then [[108, 101, 116, 114, 101, 99], s, [61], parS 0 (atD l 0), [105, 110], parS 0 (atD l 1)]
  else if k = 7 then [[99, 97, 115, 101], parS 0 (atD l 0), [111, 102]] ++ altW [123] (l.drop 1) ++ [[125]]
  else if k = 8 then s :: (l.take n.toNat).map (parS 5) ++ [[45, 62], parS 0 (atD l n.toNat)]
  else if k = 10 then [parS (if levelS s = 1 then 2 else levelS s) (atD l 0), s, parS (levelS s + 1) (atD l 1)]
  else if k = 6 then s :: l.map (parS 5)
  else if k = 3 then [parS 4 (atD l 0), parS 5 (atD l 1)] else []
mutual
/-- The text of a tree; of an application of a constructor the first part stands within signs. -/
def showT : Tr → List UInt8
  | .node k s n _ l => joinS (wordsN k s.data.toList n (showL (decide (k = 3)) l))
/-- The parts' levels and texts; of an application a constructor in front has the level -1. -/
def showL : Bool → List Tr → List (Int × List UInt8)
  | _, [] => []
  | b, t :: r => (if b && decide (t.kind = 6) then -1 else levelT t, showT t) :: showL false r
end
mutual
theorem show_same : ∀ t t' : Tr, sameT t t' = true → showT t = showT t' ∧ levelT t = levelT t' ∧ t.kind = t'.kind
  | .node k s n a l, .node k' s' n' a' l', h => by
    rw [sameT] at h
    simp only [Bool.and_eq_true, decide_eq_true_eq] at h
    obtain ⟨rfl, rfl, rfl, hl⟩ := h
    have h1 := show_sameL l l' hl
    have h2 := sameL_len l l' hl
    refine ⟨?_, ?_, rfl⟩
    · rw [showT, showT, h1]
    · simp only [levelT, h2]
theorem show_sameL : ∀ l l' : List Tr, sameL l l' = true → ∀ b, showL b l = showL b l'
  | [], [], _, _ => rfl
  | [], _ :: _, h, _ => by simp [sameL] at h
  | _ :: _, [], h, _ => by simp [sameL] at h
  | t :: r, t' :: r', h, b => by
    rw [sameL, Bool.and_eq_true] at h
    obtain ⟨h1, h2, h3⟩ := show_same t t' h.1
    rw [showL, showL, h1, h2, h3, show_sameL r r' h.2]
end
theorem joinS_ne {a : List UInt8} {l : List (List UInt8)} (h : a ≠ []) : joinS (a :: l) ≠ [] := by
  cases l with
  | nil => exact h
  | cons b r => simp [joinS]
theorem joinS_two (a b : List UInt8) (l : List (List UInt8)) : joinS (a :: b :: l) ≠ [] := by simp [joinS]
end Lx
end Go.Proofs.YteabbkhlgnoliaaGreatDoor
namespace Go.Proofs.YteabbkhlgnoliaaGreatDoor
open Go.RowKit
namespace Lx
set_option maxRecDepth 100000
set_option maxHeartbeats 2000000 in
theorem levelS_any (s : ByteArray) (w : World) : Calls Tryz.prog 138 #[.string s] w fun e w' => e = .returned (.int .i64 (levelS s.data.toList)) ∧ w = w' := by
  have hsl : s.toList = s.data.toList := by
    obtain ⟨d⟩ := s
    obtain ⟨l⟩ := d
    exact ByteArray.toList_mk l
  obtain ⟨l, hl⟩ : ∃ l, l = s.data.toList := ⟨_, rfl⟩
  rw [← hl] at hsl ⊢
  clear hl
  cases k1 : l == [43] with
  | true =>
    go_enter Tryz.func138, Tryz.ntmps138
    go_wp2_with fail
    go_ret
    exact ⟨by simp [levelS, k1], rfl⟩
  | false =>
    cases k2 : l == [45] with
    | true =>
      go_enter Tryz.func138, Tryz.ntmps138
      go_wp2_with fail
      go_ret
      exact ⟨by simp [levelS, k1, k2], rfl⟩
    | false =>
      cases k3 : l == [42] with
      | true =>
        go_enter Tryz.func138, Tryz.ntmps138
        go_wp2_with fail
        go_ret
        exact ⟨by simp [levelS, k1, k2, k3], rfl⟩
      | false =>
        cases k4 : l == [47] with
        | true =>
          go_enter Tryz.func138, Tryz.ntmps138
          go_wp2_with fail
          go_ret
          exact ⟨by simp [levelS, k1, k2, k3, k4], rfl⟩
        | false =>
          go_enter Tryz.func138, Tryz.ntmps138
          go_wp2_with fail
          go_ret
          exact ⟨by simp [levelS, k1, k2, k3, k4], rfl⟩
set_option maxHeartbeats 4000000 in
theorem levelT_any (k n a : Int) (s : ByteArray) (A : Option Addr) (m c : Nat) (w : World) : Calls Tryz.prog 98 #[.agg #[.int .i64 k, .string s, .int .i64 n, .int .i64 a, .slice A m c]] w fun e w' => e = .returned (.int .i64 (levelN k s.data.toList m)) ∧ Below w.heap.size w w' := by
  have hb : Below w.heap.size w (w.alloc (.cells #[.int .i64 k, .string s, .int .i64 n, .int .i64 a, .slice A m c] 24)) := (Below.refl _ w).alloc (Nat.le_refl _) _
  have HLS := Lib.hid (fun W => levelS_any s W)
  by_cases k2 : k = 2
  · subst k2
    go_enter Tryz.func98, Tryz.ntmps98
    go_wp2_with fail
    go_ret
    exact ⟨ret_int (by simp [levelN]), hb⟩
  · have j2 : (k == 2) = false := by simpa using k2
    by_cases k4 : k = 4
    · subst k4
      go_enter Tryz.func98, Tryz.ntmps98
      go_wp2_with fail
      go_ret
      exact ⟨ret_int (by simp [levelN]), hb⟩
    · have j4 : (k == 4) = false := by simpa using k4
      by_cases k5 : k = 5
      · subst k5
        go_enter Tryz.func98, Tryz.ntmps98
        go_wp2_with fail
        go_ret
        exact ⟨ret_int (by simp [levelN]), hb⟩
      · have j5 : (k == 5) = false := by simpa using k5
        by_cases k7 : k = 7
        · subst k7
          go_enter Tryz.func98, Tryz.ntmps98
          go_wp2_with fail
          go_ret
          exact ⟨ret_int (by simp [levelN]), hb⟩
        · have j7 : (k == 7) = false := by simpa using k7
          by_cases k10 : k = 10
          · subst k10
            go_enter Tryz.func98, Tryz.ntmps98
            go_wp2_with fail
            refine (HLS.out _).mono ?_
            rintro e w' ⟨rfl, rfl⟩
            go_wp2_with fail
            go_ret
            exact ⟨ret_int (by simp [levelN]), hb⟩
          · have j10 : (k == 10) = false := by simpa using k10
            by_cases k3 : k = 3
            · subst k3
              go_enter Tryz.func98, Tryz.ntmps98
              go_wp2_with fail
              go_ret
              exact ⟨ret_int (by simp [levelN]), hb⟩
            · have j3 : (k == 3) = false := by simpa using k3
              by_cases k6 : k = 6
              · subst k6
                by_cases hm : 0 < m
                · have hm' : (0 : Int) < (m : Int) := by omega
                  go_enter Tryz.func98, Tryz.ntmps98
                  go_wp2_with fail
                  go_ret
                  exact ⟨ret_int (by simp [levelN, hm]), hb⟩
                · have hm' : ¬ (0 : Int) < (m : Int) := by omega
                  go_enter Tryz.func98, Tryz.ntmps98
                  go_wp2_with fail
                  go_ret
                  exact ⟨ret_int (by simp [levelN, hm]), hb⟩
              · have j6 : (k == 6) = false := by simpa using k6
                go_enter Tryz.func98, Tryz.ntmps98
                go_wp2_with fail
                go_ret
                exact ⟨ret_int (by simp [levelN, k2, k4, k5, k7, k10, k3, k6]), hb⟩
end Lx
end Go.Proofs.YteabbkhlgnoliaaGreatDoor
namespace Go.Proofs.YteabbkhlgnoliaaGreatDoor
open Go.RowKit
namespace Lx
set_option maxRecDepth 100000
theorem wlies : liesAt Tryz.prog Tryz.prog.depth 55 (2 / Tryz.prog.cellsOf 55) 0 53 1 = true := by kernel_rfl
set_option maxHeartbeats 1000000 in
theorem wcheck_used (b : Nat) (w : World) (h0 : w.cell? ⟨b, 0, none⟩ = some (.pointer (some ⟨b, 0, none⟩))) :
    Calls Tryz.prog 136 #[.pointer (some ⟨b, 0, none⟩)] w fun e w' => e = .returned (.tuple #[]) ∧ w = w' := by
  obtain ⟨j, hj, _⟩ := Option.map_eq_some_iff.1 size46
  have hne := Lib.run_neq_ptr_same (P := Tryz.prog) w ⟨b, 0, none⟩ Tryz.underlying50 hj
  clear hj
  go_enter Tryz.func136, Tryz.ntmps136
  go_wp2
  go_end0
  exact ⟨rfl, rfl⟩
set_option maxHeartbeats 1000000 in
theorem wcheck_fresh (b : Nat) (w : World) (h0 : w.cell? ⟨b, 0, none⟩ = some (.pointer none)) (hsh : w.shape? b = some (55, 2)) (hfz : w.frozen? ⟨b, 0, none⟩ = false) :
    Calls Tryz.prog 136 #[.pointer (some ⟨b, 0, none⟩)] w fun e w' => e = .returned (.tuple #[]) ∧ w' = w.setCell ⟨b, 0, none⟩ (.pointer (some ⟨b, 0, none⟩)) := by
  obtain ⟨j, hj, hjs⟩ := Option.map_eq_some_iff.1 size46
  have h1 := Lib.run_to_unsafe (P := Tryz.prog) w ⟨b, 0, none⟩ Tryz.underlying50 Tryz.underlying175 hj (by rw [hjs]; decide) hsh (Nat.zero_lt_succ 1)
  have h2 := Lib.run_from_unsafe (P := Tryz.prog) w ⟨b, 0, none⟩ Tryz.underlying175 Tryz.underlying50 hj hsh wlies
  have h3 : (callFunc 160 #[.pointer (some ⟨b, 0, none⟩)]).run Tryz.prog w = .ok (.value (.pointer (some ⟨b, 0, none⟩))) w := by
    rw [run_callFunc_extern Tryz.func160 (by kernel_rfl) (by kernel_rfl) (by kernel_rfl) (e := Extern.AbiNoEscape.same) (by kernel_rfl)]
    rw [Lib.run_noEscape]
    rfl
  clear hj hsh hjs
  go_enter Tryz.func136, Tryz.ntmps136
  go_wp2
  go_end0
  exact ⟨rfl, rfl⟩

/-- A builder of the call's own, in block b, that holds the bytes l. -/
abbrev WB (B b : Nat) (l : List UInt8) (w : World) : Prop := Lib.IsBuilder 55 5 B b (Lib.byteCells l) w

theorem wcheck_any (B b : Nat) (l : List UInt8) (w : World) (h : WB B b l w) :
    Calls Tryz.prog 136 #[.pointer (some ⟨b, 0, none⟩)] w fun e w' => e = .returned (.tuple #[]) ∧ Lib.BuilderAt 55 5 B b (.pointer (some ⟨b, 0, none⟩)) (Lib.byteCells l) w' ∧ Below B w w' ∧ Lib.OthersKept 5 (some b) w w' := by
  rcases h with h | h
  · refine (wcheck_fresh b w h.cell0 h.shape h.frozen0).mono ?_
    rintro e w' ⟨rfl, rfl⟩
    exact ⟨rfl, h.used _, (Below.refl B w).setCell (p := ⟨b, 0, none⟩) h.1 _, (Lib.OthersKept.refl _ _ w).setCell ⟨b, 0, none⟩ rfl _⟩
  · refine (wcheck_used b w h.cell0).mono ?_
    rintro e w' ⟨rfl, rfl⟩
    exact ⟨rfl, h, Below.refl B _, Lib.OthersKept.refl _ _ _⟩

set_option maxHeartbeats 2000000 in
theorem wbyte_any (B b : Nat) (l : List UInt8) (c : UInt8) (w : World) (h : WB B b l w) (hlen : l.length ≤ 100000000) (hBw : B ≤ w.heap.size) :
    Calls Tryz.prog 94 #[.pointer (some ⟨b, 0, none⟩), .int .u8 c.toNat] w fun e w' => e = .returned .nilIface ∧ WB B b (l ++ [c]) w' ∧ Below B w w' ∧ Lib.OthersKept 5 (some b) w w' := by
  obtain ⟨i0, hi, hz0, hz1, hz2⟩ := info_parts info5
  go_enter Tryz.func94, Tryz.ntmps94
  go_wp2_with fail
  refine (wcheck_any B b l _ h).mono ?_
  rintro e w1 ⟨rfl, ⟨hB, v, hbk, hown, hne⟩, hb1, hk1⟩
  have hL : Lies w1 b 55 #[.pointer (some ⟨b, 0, none⟩), v] := hbk
  have c0 := hL.cell 0
  have c1 := hL.cell 1
  simp at c0 c1
  have hs1 := hb1.size
  have hlc := Lib.byteCells_length l
  rw [hlc] at hown
  clear h hlc
  go_wp2_with (at_builtin; refine wpList_append_own _ rfl _ _ 51 rfl B 5 i0 (.int .u8 0) 1 1 Tryz.underlying51 hi hz0 hz1 hz2 rfl (by decide) _ _ _ rfl (hown.alloc _) ⟨w1.heap.size, 0, none⟩ 1 1 [.int .u8 c.toNat] rfl rfl ?c1 ?c2 ?c3 ?c4 ?c5 ?_)
  case c1 => exact new_cells _ 5 [.int .u8 c.toNat] _ rfl
  case c2 => intro u hu; simp at hu; subst hu; rfl
  case c3 => unfold maxLen; omega
  case c4 => omega
  case c5 => simp; omega
  intro v' w2 hown' hgrow _
  have hlt := hL.lt
  have hL2 : Lies w2 b 55 #[.pointer (some ⟨b, 0, none⟩), v] := (hL.old _).grown hgrow (fun e => hne e.symm)
  have d0 := hL2.cell 0
  have d1 := hL2.cell 1
  have f1 := hL2.frozen 1
  simp at d0 d1
  obtain ⟨A', c', rfl⟩ := own_slice hown'
  clear hi hz0 hz1 hz2 c0 c1
  go_wp2_with fail
  go_ret
  refine ⟨rfl, ?_, ?_, ?_⟩
  · refine .inr (Lib.BuilderAt.put (T := 55) (e := 5) hB hL2 ?_ (by decide))
    rw [Lib.byteCells_length, List.length_append, Lib.byteCells_append]
    exact hown'
  · exact ((hb1.alloc (by omega) _).grown hgrow (by simp; omega) (fun k hk => (hown.lt k hk).1)).setCell (p := ⟨b, 1, none⟩) hB _
  · exact ((hk1.alloc _).grown hgrow (Lib.ownsRowF_kind (World.ownsRowF_of (hown.alloc _)))).setCell ⟨b, 1, none⟩ rfl _

set_option maxHeartbeats 2000000 in
theorem wstring_any (B b : Nat) (l t : List UInt8) (w : World) (h : WB B b l w) (hlen : l.length + t.length ≤ 100000000) (hBw : B ≤ w.heap.size) :
    Calls Tryz.prog 95 #[.pointer (some ⟨b, 0, none⟩), .string ⟨t.toArray⟩] w fun e w' => e = .returned (.tuple #[.int .i64 t.length, .nilIface]) ∧ WB B b (l ++ t) w' ∧ Below B w w' ∧ Lib.OthersKept 5 (some b) w w' := by
  obtain ⟨i0, hi, hz0, hz1, hz2⟩ := info_parts info5
  go_enter Tryz.func95, Tryz.ntmps95
  go_wp2_with fail
  refine (wcheck_any B b l _ h).mono ?_
  rintro e w1 ⟨rfl, ⟨hB, v, hbk, hown, hne⟩, hb1, hk1⟩
  have hL : Lies w1 b 55 #[.pointer (some ⟨b, 0, none⟩), v] := hbk
  have c0 := hL.cell 0
  have c1 := hL.cell 1
  simp at c0 c1
  have hs1 := hb1.size
  have hlc := Lib.byteCells_length l
  rw [hlc] at hown
  have hts : (⟨t.toArray⟩ : ByteArray).size = t.length := by rw [Lib.size_eq]
  have HT := Lib.hid hts
  clear h hlc hts
  go_wp2_with (at_builtin; refine Lib.wpList_append_own_string _ rfl _ _ 51 9 rfl B 5 i0 Tryz.underlying51 Tryz.underlying9 hi hz0 hz1 hz2 _ _ _ rfl hown _ rfl ?c3 ?c4 ?c5 ?_)
  case c3 => rw [HT.out]; unfold maxLen; omega
  case c4 => rw [HT.out]; omega
  case c5 => omega
  intro v' w2 hown' hgrow _
  have hlt := hL.lt
  have hL2 : Lies w2 b 55 #[.pointer (some ⟨b, 0, none⟩), v] := hL.grown hgrow (fun e => hne e.symm)
  have d0 := hL2.cell 0
  have d1 := hL2.cell 1
  have f1 := hL2.frozen 1
  simp at d0 d1
  obtain ⟨A', c', rfl⟩ := own_slice hown'
  clear hi hz0 hz1 hz2 c0 c1
  go_wp2_with fail
  go_ret2
  refine ⟨?_, ?_, ?_, ?_⟩
  · first | rfl | rw [HT.out]
  · refine .inr (Lib.BuilderAt.put (T := 55) (e := 5) hB hL2 ?_ (by decide))
    rw [Lib.byteCells_length, List.length_append, Lib.byteCells_append]
    exact hown'
  · exact (hb1.grown hgrow (by omega) (fun k hk => (hown.lt k hk).1)).setCell (p := ⟨b, 1, none⟩) hB _
  · exact (hk1.grown hgrow (Lib.ownsRowF_kind (World.ownsRowF_of hown))).setCell ⟨b, 1, none⟩ rfl _
theorem wb_alloc {B b : Nat} {l : List UInt8} {w : World} (h : WB B b l w) (o : Obj) : WB B b l (w.alloc o) := by
  rcases h with h | h
  · obtain ⟨hB, v, hb, hown, hne⟩ := h
    exact .inl ⟨hB, v, (Below.heap_alloc w o b (Array.getElem?_eq_some_iff.1 hb).1).trans hb, hown.alloc _, hne⟩
  · obtain ⟨hB, v, hb, hown, hne⟩ := h
    exact .inr ⟨hB, v, (Below.heap_alloc w o b (Array.getElem?_eq_some_iff.1 hb).1).trans hb, hown.alloc _, hne⟩
theorem wb_lt {B b : Nat} {l : List UInt8} {w : World} (h : WB B b l w) : b < w.heap.size := by
  rcases h with h | h <;> exact h.lt
end Lx
end Go.Proofs.YteabbkhlgnoliaaGreatDoor
namespace Go.Proofs.YteabbkhlgnoliaaGreatDoor
open Go.RowKit
namespace Lx
set_option maxRecDepth 100000
theorem cells5 : Tryz.prog.cellsOf 5 = 1 := by kernel_rfl
set_option maxHeartbeats 2000000 in
theorem wtext_any (B b : Nat) (l : List UInt8) (w : World) (h : WB B b l w) (h0 : l ≠ []) :
    Calls Tryz.prog 33 #[.pointer (some ⟨b, 0, none⟩)] w fun e w' => e = .returned (.string ⟨l.toArray⟩) ∧ Below B w w' := by
  obtain ⟨p, hAt⟩ : ∃ p, Lib.BuilderAt 55 5 B b p (Lib.byteCells l) w := by
    rcases h with h | h
    · exact ⟨_, h⟩
    · exact ⟨_, h⟩
  obtain ⟨hB, v, hbk, hown, hne⟩ := hAt
  have hl0 : l.length ≠ 0 := by simpa using h0
  rw [Lib.byteCells_length] at hown
  obtain ⟨g, cap, cur, rfl, hbg, hg, hnc, hcm, hcs, htake⟩ : ∃ g cap cur, v = .slice (some ⟨g, 0, none⟩) l.length cap ∧ B ≤ g ∧ w.heap[g]? = some (.cells cur 5 (0, 0)) ∧ l.length ≤ cap ∧ cap ≤ maxLen ∧ cur.size = cap * 1 ∧ cur.toList.take (l.length * 1) = Lib.byteCells l := by
    rcases hown.2 with ⟨_, hz⟩ | ⟨g, cap, cur, hv, r⟩
    · exact absurd hz hl0
    · exact ⟨g, cap, cur, hv, r⟩
  have c1 : w.drew.cell? ⟨b, 1, none⟩ = some (.slice (some ⟨g, 0, none⟩) l.length cap) := by
    have : w.drew.heap[b]? = some (.cells #[p, .slice (some ⟨g, 0, none⟩) l.length cap] 55 (0, 0)) := hbk
    rw [Lib.cell_of_heap this]; rfl
  have hSD : (Builtin.unsafeSliceData_ #[51] 94 #[.slice (some ⟨g, 0, none⟩) l.length cap]).run Tryz.prog w.drew = .ok (.pointer (some ⟨g, 0, none⟩)) w.drew :=
    Lib.run_unsafeSliceData_row _ _ _ _ _ _ (by omega)
  have hUS : (Builtin.unsafeString_ #[94, 3] 9 #[.pointer (some ⟨g, 0, none⟩), .int .i64 l.length]).run Tryz.prog w.drew = .ok (.string ⟨l.toArray⟩) (w.drew.freeze ⟨g, 0, none⟩ l.length) := by
    refine Lib.run_unsafeString_row w.drew 94 3 9 5 Tryz.underlying94 cells5 g cur.size (by have hg' : w.drew.heap[g]? = some (.cells cur 5 (0, 0)) := hg; simp [World.shape?, hg']) l h0 (by omega) (by unfold maxLen at hcm; omega) ?_
    intro j x hx
    have := (World.ownsRowF_of hown).cells (g := g) rfl j (.int .u8 x.toNat) (by simp [Lib.byteCells, hx])
    exact this
  clear h hne hown hg hcs htake hbk
  go_enter Tryz.func33, Tryz.ntmps33
  go_wp2_with fail
  go_region
  all_goals (go_wp2_with fail; go_ret; exact ⟨rfl, Lib.below_freeze (Below.drew (Below.refl B w)) (p := ⟨g, 0, none⟩) hbg _⟩)
end Lx
end Go.Proofs.YteabbkhlgnoliaaGreatDoor
namespace Go.Proofs
open Go.Shelf
def Tryz.laysM171_ren : Go.Shelf.Ren := ⟨fun | 171 => 96 | 243 => 137 | 246 => 161 | 283 => 173 | 284 => 174 | 285 => 175 | 286 => 176 | 129 => 133 | 317 => 182 | 318 => 183 | 319 => 184 | 320 => 185 | 337 => 187 | 338 => 188 | n => n, fun | 3 => 3 | 9 => 9 | 2 => 2 | 4 => 4 | 171 => 182 | 0 => 0 | 53 => 160 | 37 => 51 | 5 => 5 | 173 => 184 | 212 => 190 | 51 => 158 | 20 => 20 | 213 => 191 | 46 => 119 | 232 => 193 | 233 => 194 | n => n, fun | 17 => 1 | 18 => 2 | 19 => 3 | n => n⟩
theorem Tryz.laysM171 : Go.Proofs.LaysM.n171 Tryz.prog Tryz.laysM171_ren := {
  mixed := by kernel_rfl
  f129 := Tryz.func133.trans (congrArg some (by kernel_rfl))
  f171 := Tryz.func96.trans (congrArg some (by kernel_rfl))
  f243 := Tryz.func137.trans (congrArg some (by kernel_rfl))
  f246 := Tryz.func161.trans (congrArg some (by kernel_rfl))
  f283 := Tryz.func173.trans (congrArg some (by kernel_rfl))
  f284 := Tryz.func174.trans (congrArg some (by kernel_rfl))
  f285 := Tryz.func175.trans (congrArg some (by kernel_rfl))
  f286 := Tryz.func176.trans (congrArg some (by kernel_rfl))
  f317 := Tryz.func182.trans (congrArg some (by kernel_rfl))
  f318 := Tryz.func183.trans (congrArg some (by kernel_rfl))
  f319 := Tryz.func184.trans (congrArg some (by kernel_rfl))
  f320 := Tryz.func185.trans (congrArg some (by kernel_rfl))
  f337 := Tryz.func187.trans (congrArg some (by kernel_rfl))
  f338 := Tryz.func188.trans (congrArg some (by kernel_rfl))
  t0 := Tryz.underlying0
  a0 := Tryz.isAgg0
  z0 := Tryz.sizeOf0
  v0 := Tryz.zeroValue0
  t2 := Tryz.underlying2
  a2 := Tryz.isAgg2
  z2 := Tryz.sizeOf2
  v2 := Tryz.zeroValue2
  t3 := Tryz.underlying3
  a3 := Tryz.isAgg3
  z3 := Tryz.sizeOf3
  v3 := Tryz.zeroValue3
  t4 := Tryz.underlying4
  a4 := Tryz.isAgg4
  z4 := Tryz.sizeOf4
  v4 := Tryz.zeroValue4
  t5 := Tryz.underlying5
  a5 := Tryz.isAgg5
  z5 := Tryz.sizeOf5
  v5 := Tryz.zeroValue5
  t9 := Tryz.underlying9
  a9 := Tryz.isAgg9
  z9 := Tryz.sizeOf9
  v9 := Tryz.zeroValue9
  t20 := Tryz.underlying20
  a20 := Tryz.isAgg20
  z20 := Tryz.sizeOf20
  v20 := Tryz.zeroValue20
  t37 := Tryz.underlying51
  a37 := Tryz.isAgg51
  z37 := Tryz.sizeOf51
  v37 := Tryz.zeroValue51
  t46 := Tryz.underlying119
  a46 := Tryz.isAgg119
  z46 := Tryz.sizeOf119
  v46 := Tryz.zeroValue119
  t51 := Tryz.underlying158
  a51 := Tryz.isAgg158
  z51 := Tryz.sizeOf158
  v51 := Tryz.zeroValue158
  t53 := Tryz.underlying160
  a53 := Tryz.isAgg160
  z53 := Tryz.sizeOf160
  v53 := Tryz.zeroValue160
  t171 := Tryz.underlying182
  a171 := Tryz.isAgg182
  z171 := Tryz.sizeOf182
  v171 := Tryz.zeroValue182
  t173 := Tryz.underlying184
  a173 := Tryz.isAgg184
  z173 := Tryz.sizeOf184
  v173 := Tryz.zeroValue184
  t212 := Tryz.underlying190
  a212 := Tryz.isAgg190
  z212 := Tryz.sizeOf190
  v212 := Tryz.zeroValue190
  t213 := Tryz.underlying191
  a213 := Tryz.isAgg191
  z213 := Tryz.sizeOf191
  t232 := Tryz.underlying193
  a232 := Tryz.isAgg193
  z232 := Tryz.sizeOf193
  v232 := Tryz.zeroValue193
  t233 := Tryz.underlying194
  a233 := Tryz.isAgg194
  z233 := Tryz.sizeOf194
  v233 := Tryz.zeroValue194
  g17 := by kernel_rfl
  g18 := by kernel_rfl
  g19 := by kernel_rfl
  i0 := by kernel_rfl
  i2 := by kernel_rfl
  i3 := by kernel_rfl
  i4 := by kernel_rfl
  i5 := by kernel_rfl
  i9 := by kernel_rfl
  i20 := by kernel_rfl
  i37 := by kernel_rfl
  i46 := by kernel_rfl
  i51 := by kernel_rfl
  i53 := by kernel_rfl
  i171 := by kernel_rfl
  i173 := by kernel_rfl
  i212 := by kernel_rfl
  i232 := by kernel_rfl
  i233 := by kernel_rfl
  m17 := by kernel_rfl
  m18 := by kernel_rfl
  m19 := by kernel_rfl }
open Go.RowKit Go.Sort Go.Lib in
theorem Tryz.strconv_Itoa (n : Int) (h0 : -9223372036854775808 ≤ n) (h1 : n ≤ 9223372036854775807) (w : World) (htab : Lib.TabIs Tryz.prog w "internal/strconv.uint64pow10" .u64 Lib.pow10Tab) :
    Calls Tryz.prog 96 #[.int .i64 n] w fun e w' => e = .returned (.string ⟨(Lib.itoa n).toArray⟩) ∧ ∃ k os, w' = grow (w.drewN k) os := Any.strconv_Itoa Tryz.laysM171 n h0 h1 w htab
end Go.Proofs
namespace Go.Proofs.YteabbkhlgnoliaaGreatDoor
open Go.RowKit Go.Sort
namespace Lx
set_option maxRecDepth 100000
/-- What a method of the writer does: it writes x. -/
def WPo (B b : Nat) (l x : List UInt8) (w : World) (e : Ending) (w' : World) : Prop := e = .returned (.tuple #[]) ∧ WB B b (l ++ x) w' ∧ Below B w w' ∧ Lib.OthersKept 5 (some b) w w'
/-- A row of words in block G. -/
def AnyRow (W : World) (G : Nat) (vs : List Value) : Prop := ∃ (cur : Array Value) (fz : Nat × Nat), W.heap[G]? = some (.cells cur 20 fz) ∧ ∀ (i : Nat) (v : Value), vs[i]? = some v → cur[i]? = some v
theorem AnyRow.others {W W' : World} {G b : Nat} {vs : List Value} (h : AnyRow W G vs) (hk : Lib.OthersKept 5 (some b) W W') (hG : G ≠ b) : AnyRow W' G vs := by
  have ht : (20 : TypeId) ≠ 5 := by decide
  obtain ⟨cur, fz, h1, h2⟩ := h
  refine ⟨cur, fz, hk G _ h1 (by simpa using hG) (fun c fz' e => ?_), h2⟩
  injection e with _ e2 _
  exact ht e2
theorem AnyRow.cell {W : World} {G : Nat} {vs : List Value} (h : AnyRow W G vs) {i : Nat} {v : Value} (hi : vs[i]? = some v) : W.cell? ⟨G, i, none⟩ = some v := by
  obtain ⟨cur, fz, h1, h2⟩ := h
  rw [Lib.cell_of_heap h1]
  exact h2 i v hi
theorem as_str (v : Value) (w : World) : (Instr.typeAssert (.iface 9 v) 20 9 true).run Tryz.prog w = .ok (.tuple #[v, .bool true]) w := by kernel_rfl
theorem as_str3 (v : Value) (w : World) : (Instr.typeAssert (.iface 3 v) 20 9 true).run Tryz.prog w = .ok (.tuple #[.string ⟨#[]⟩, .bool false]) w := by kernel_rfl
theorem as_strp (v : Value) (w : World) : (Instr.typeAssert (.iface 90 v) 20 9 true).run Tryz.prog w = .ok (.tuple #[.string ⟨#[]⟩, .bool false]) w := by kernel_rfl
theorem as_int (v : Value) (w : World) : (Instr.typeAssert (.iface 3 v) 20 3 true).run Tryz.prog w = .ok (.tuple #[v, .bool true]) w := by kernel_rfl
theorem as_intp (v : Value) (w : World) : (Instr.typeAssert (.iface 90 v) 20 3 true).run Tryz.prog w = .ok (.tuple #[.int .i64 0, .bool false]) w := by kernel_rfl
theorem as_part (v : Value) (w : World) : (Instr.typeAssert (.iface 90 v) 20 90 true).run Tryz.prog w = .ok (.tuple #[v, .bool true]) w := by kernel_rfl
theorem bu_part (k s n a v : Value) (lv : Int) (w : World) : (Instr.build 90 #[(0, .agg #[k, s, n, a, v]), (1, .int .i64 lv)]).run Tryz.prog w = .ok (.agg #[k, s, n, a, v, .int .i64 lv]) w := by kernel_rfl
/-- A word among others: a text, a number, or what a call of part writes. -/
def WdIs (B b : Nat) (Iv : World → Prop) (v : Value) (x : List UInt8) : Prop :=
  (v = .iface 9 (.string ⟨x.toArray⟩)) ∨ (∃ n, v = .iface 3 (.int .i64 n) ∧ x = Lib.itoa n ∧ -9223372036854775808 ≤ n ∧ n ≤ 9223372036854775807) ∨
  (∃ k s n a A m c lv, v = .iface 90 (.agg #[.int .i64 k, .string s, .int .i64 n, .int .i64 a, .slice A m c, .int .i64 lv]) ∧
    ∀ (l : List UInt8) (W : World), Iv W → WB B b l W → B ≤ W.heap.size → l.length + x.length ≤ 1000000 → Calls Tryz.prog 97 #[.pointer (some ⟨b, 0, none⟩), .agg #[.int .i64 k, .string s, .int .i64 n, .int .i64 a, .slice A m c, .int .i64 lv]] W fun e w' => WPo B b l x W e w')
theorem joinS_take (xs : List (List UInt8)) (i : Nat) (h : i < xs.length) (h0 : 0 < i) : joinS (xs.take (i + 1)) = joinS (xs.take i) ++ 32 :: xs[i]'h := by
  have key : ∀ (l : List (List UInt8)) (a : List UInt8), l ≠ [] → joinS (l ++ [a]) = joinS l ++ 32 :: a := by
    intro l a hl
    induction l with
    | nil => exact absurd rfl hl
    | cons u r ih =>
      cases r with
      | nil => rfl
      | cons v r =>
        have := ih (by simp)
        simp only [List.cons_append] at this ⊢
        simp only [joinS, this, List.append_assoc, List.cons_append]
  rw [List.take_succ_eq_append_getElem h]
  exact key _ _ (by intro e; have := congrArg List.length e; rw [List.length_take] at this; simp only [List.length_nil] at this; omega)
theorem joinS_mono (xs : List (List UInt8)) (i : Nat) : (joinS (xs.take i)).length ≤ (joinS xs).length := by
  have key : ∀ (a b : List (List UInt8)), (joinS a).length ≤ (joinS (a ++ b)).length := by
    intro a
    induction a with
    | nil => intro b; simp [joinS]
    | cons u r ih =>
      intro b
      cases r with
      | nil =>
        cases b with
        | nil => simp
        | cons v q => simp [joinS]
      | cons v q =>
        have := ih b
        simp only [List.cons_append] at this ⊢
        simp only [joinS, List.length_append, List.length_cons] at this ⊢
        omega
  have := key (xs.take i) (xs.drop i)
  rwa [List.take_append_drop] at this
theorem grow_ind (p : World → Prop) (h : ∀ w o, p w → p (w.alloc o)) : ∀ (l : List Obj) (w : World), p w → p (grow w ⟨l⟩)
  | [], w, hw => by
    have e : grow w ⟨[]⟩ = w := by
      show ({ w with heap := w.heap ++ (⟨[]⟩ : Array Obj) } : World) = w
      have : w.heap ++ (⟨[]⟩ : Array Obj) = w.heap := by simp
      rw [this]
    rw [e]
    exact hw
  | o :: r, w, hw => by
    have e : grow w ⟨o :: r⟩ = grow (w.alloc o) ⟨r⟩ := by
      show ({ w with heap := w.heap ++ (⟨o :: r⟩ : Array Obj) } : World) = { w with heap := (w.heap.push o) ++ (⟨r⟩ : Array Obj) }
      have : w.heap ++ (⟨o :: r⟩ : Array Obj) = (w.heap.push o) ++ (⟨r⟩ : Array Obj) := by
        apply Array.ext'
        simp
      rw [this]
    rw [e]
    exact grow_ind p h r _ (h w o hw)
theorem after_grow {B b : Nat} {l : List UInt8} {W : World} (hB : WB B b l W) (hs : B ≤ W.heap.size) (k : Nat) (os : Array Obj) :
    WB B b l (grow (W.drewN k) os) ∧ Below B W (grow (W.drewN k) os) ∧ Lib.OthersKept 5 (some b) W (grow (W.drewN k) os) := by
  obtain ⟨os⟩ := os
  have key := grow_ind (fun W' => WB B b l W' ∧ Below B W W' ∧ Lib.OthersKept 5 (some b) W W') (fun W' o h => ⟨wb_alloc h.1 o, h.2.1.alloc (by have := h.2.1.size; omega) o, h.2.2.alloc o⟩) os (W.drewN k) ⟨hB, ⟨rfl, rfl, rfl, Nat.le_refl _, fun _ _ => rfl⟩, Lib.OthersKept.refl _ _ W⟩
  exact key
set_option maxHeartbeats 8000000 in
theorem words_any (B b G : Nat) (Iv : World → Prop) (vs : List Value) (xs : List (List UInt8)) (vn vc : Nat) (l : List UInt8) (w : World) (hn : vn = vs.length) (hn2 : vs.length = xs.length) (hns : vn ≤ 1000)
    (hIv : Iv w) (hst : ∀ W W', Iv W → Below B W W' → Iv W') (hW : WB B b l w) (hBw : B ≤ w.heap.size) (hG : AnyRow w G vs) (hGb : G ≠ b) (hlen : l.length + (joinS xs).length ≤ 1000000)
    (htab : ∀ W, Iv W → Lib.TabIs Tryz.prog W "internal/strconv.uint64pow10" .u64 Lib.pow10Tab)
    (hws : ∀ (i : Nat) (v : Value) (x : List UInt8), vs[i]? = some v → xs[i]? = some x → WdIs B b Iv v x) :
    Calls Tryz.prog 53 #[.pointer (some ⟨b, 0, none⟩), .slice (some ⟨G, 0, none⟩) vn vc] w fun e w' => WPo B b l (joinS xs) w e w' := by
  have h1 : vn ≤ xs.length := by omega
  have h2 : xs.length ≤ vn := by omega
  have h3 : vn ≤ vs.length := by omega
  have HWS := Lib.hid hws
  have HST := Lib.hid hst
  have HTAB := Lib.hid htab
  have HJ := Lib.hid (joinS_mono xs)
  clear hws hst htab hn hn2
  have ha1 := as_str
  have ha2 := as_str3
  have ha3 := as_strp
  have ha4 := as_int
  have ha5 := as_intp
  have ha6 := as_part
  go_enter Tryz.func53, Tryz.ntmps53
  go_wp2_with fail
  go_loopw [11] (fun x wr => ∃ i : Nat, i ≤ vn ∧ x = .int .i64 i ∧ Iv wr ∧ WB B b (l ++ joinS (xs.take i)) wr ∧ B ≤ wr.heap.size ∧ AnyRow wr G vs ∧ Below B w wr ∧ Lib.OthersKept 5 (some b) w wr) (fun x _ => vn - (intOf x).toNat)
  case atStart => exact ⟨0, by omega, rfl, hIv, by simpa [joinS] using hW, hBw, hG, Below.refl _ _, Lib.OthersKept.refl _ _ _⟩
  case round =>
    obtain ⟨i, hi, rfl, hI, hB, hBs, hR, hb, hk⟩ := hrel
    by_cases hlt : i < vn
    · have hi2 : vs[i]? = some (vs[i]'(by omega)) := List.getElem?_eq_getElem (by omega)
      have hx2 : xs[i]? = some (xs[i]'(by omega)) := List.getElem?_eq_getElem (by omega)
      have hcl := hR.cell hi2
      obtain ⟨V, hV⟩ : ∃ V, V = vs[i]'(by omega) := ⟨_, rfl⟩
      obtain ⟨X, hX⟩ : ∃ X, X = xs[i]'(by omega) := ⟨_, rfl⟩
      have hwd := HWS.out i _ _ hi2 hx2
      have htk : joinS (xs.take (i + 1)) = joinS (xs.take i) ++ (if i = 0 then [] else [32]) ++ X := by
        by_cases h0 : i = 0
        · subst h0
          obtain ⟨a, r, rfl⟩ : ∃ a r, xs = a :: r := by
            cases xs with
            | nil => exact absurd h1 (by simp; omega)
            | cons a r => exact ⟨a, r, rfl⟩
          subst hX
          simp [joinS]
        · rw [joinS_take xs i (by omega) (by omega), hX]
          simp [h0]
      have hl1 := HJ.out (i + 1)
      rw [← hV] at hcl hwd
      rw [← hX] at hwd
      clear hi2 hx2 hX hV
      rw [htk] at hl1
      simp only [List.length_append] at hl1
      have HTK := Lib.hid htk
      clear htk
      have hti := HTAB.out wr hI
      by_cases h0 : i = 0
      · have hz : decide (0 < i) = false := by simp [h0]
        simp only [if_pos h0, List.length_nil] at hl1
        have H0 := Lib.hid h0
        clear h0
        rcases hwd with rfl | ⟨n, rfl, rfl, hn0, hn1⟩ | ⟨k, s, n, a, A, m, c, lv, rfl, hcall⟩
        · have hL1 : (l ++ joinS (xs.take i)).length = l.length + (joinS (xs.take i)).length := by simp
          go_wp2_with fail
          refine (wstring_any B b _ X _ hB (by omega) (by omega)).mono ?_
          rintro e w2 ⟨rfl, hB2, hb2, hk2⟩
          have hbz := hb.trans hb2
          have hkz := hk.trans hk2
          have hI2 := HST.out _ _ hI hb2
          have hR2 := hR.others hk2 hGb
          have hs2 := hb2.size
          rw [List.append_assoc] at hB2
          have hB9 : WB B b (l ++ joinS (xs.take (i + 1))) w2 := by
            rw [HTK.out, if_pos H0.out, List.append_nil]
            exact hB2
          clear hB2
          go_wp2_with fail
          go_roundw
          case rel => exact ⟨i + 1, by omega, by go_num, hI2, hB9, by omega, hR2, hbz, hkz⟩
          case measure => simp [intOf]; omega
        · have hL1 : (l ++ joinS (xs.take i)).length = l.length + (joinS (xs.take i)).length := by simp
          have hbq : Below B wr wr.drew := (Below.refl _ wr).drew
          have hBq : WB B b _ wr.drew := hB
          have hIq := HST.out _ _ hI hbq
          have hkq : Lib.OthersKept 5 (some b) wr wr.drew := Lib.OthersKept.refl _ _ wr
          have hsq : wr.drew.heap.size = wr.heap.size := rfl
          have htq := HTAB.out _ hIq
          clear hti
          go_wp2_with fail
          go_region_held3 (fun _ => True) (first | exact trivial)
            ((first
              | (go_at_call 96
                 refine (Tryz.strconv_Itoa n hn0 hn1 _ htq).mono ?_
                 rintro e w3 ⟨rfl, k, os, hw3⟩
                 obtain ⟨hB3, hb3, hk3⟩ := after_grow hBq (by omega) k os
                 rw [← hw3] at hB3 hb3 hk3
                 have hs3 := hb3.size
                 clear hw3)
              | (go_at_call 95
                 refine (wstring_any B b _ _ _ hB3 (by omega) (by omega)).mono ?_
                 rintro e w2 ⟨rfl, hB2, hb2, hk2⟩)))
          have hbq2 := (hbq.trans hb3).trans hb2
          have hkq2 := (hkq.trans hk3).trans hk2
          have hbz := hb.trans hbq2
          have hkz := hk.trans hkq2
          have hI2 := HST.out _ _ hI hbq2
          have hR2 := hR.others hkq2 hGb
          have hs2 := hb2.size
          rw [List.append_assoc] at hB2
          have hB9 : WB B b (l ++ joinS (xs.take (i + 1))) w2 := by
            rw [HTK.out, if_pos H0.out, List.append_nil]
            exact hB2
          clear hB2
          go_wp2_with fail
          go_roundw
          case rel => exact ⟨i + 1, by omega, by go_num, hI2, hB9, by omega, hR2, hbz, hkz⟩
          case measure => simp [intOf]; omega
        · have hL1 : (l ++ joinS (xs.take i)).length = l.length + (joinS (xs.take i)).length := by simp
          obtain ⟨O, hO⟩ : ∃ O, O = Obj.cells #[.int .i64 k, .string s, .int .i64 n, .int .i64 a, .slice A m c, .int .i64 lv] 90 := ⟨_, rfl⟩
          have hbq : Below B wr (wr.alloc O) := (Below.refl _ wr).alloc (by omega) _
          have hBq := wb_alloc hB O
          have hIq := HST.out _ _ hI hbq
          have hkq : Lib.OthersKept 5 (some b) wr (wr.alloc O) := (Lib.OthersKept.refl _ _ wr).alloc O
          have hsq := hbq.size
          subst hO
          go_wp2_with fail
          refine (hcall _ _ hIq hBq (by omega) (by omega)).mono ?_
          rintro e w2 ⟨rfl, hB2, hb2, hk2⟩
          have hbq2 := hbq.trans hb2
          have hkq2 := hkq.trans hk2
          have hbz := hb.trans hbq2
          have hkz := hk.trans hkq2
          have hI2 := HST.out _ _ hI hbq2
          have hR2 := hR.others hkq2 hGb
          have hs2 := hb2.size
          rw [List.append_assoc] at hB2
          have hB9 : WB B b (l ++ joinS (xs.take (i + 1))) w2 := by
            rw [HTK.out, if_pos H0.out, List.append_nil]
            exact hB2
          clear hB2
          go_wp2_with fail
          go_roundw
          case rel => exact ⟨i + 1, by omega, by go_num, hI2, hB9, by omega, hR2, hbz, hkz⟩
          case measure => simp [intOf]; omega
      · have hz : decide (0 < i) = true := by simp; omega
        simp only [if_neg h0, List.length_cons, List.length_nil] at hl1
        rcases hwd with rfl | ⟨n, rfl, rfl, hn0, hn1⟩ | ⟨k, s, n, a, A, m, c, lv, rfl, hcall⟩
        · go_wp2_with fail
          refine (wbyte_any B b _ 32 _ hB (by rw [List.length_append]; omega) hBs).mono ?_
          rintro e w1 ⟨rfl, hB1, hb1, hk1⟩
          have hs1 := hb1.size
          have hI1 := HST.out _ _ hI hb1
          have hR1 := hR.others hk1 hGb
          rw [List.append_assoc] at hB1
          have hL1 : (l ++ (joinS (xs.take i) ++ [32])).length = l.length + ((joinS (xs.take i)).length + 1) := by simp
          clear hB hcl hti
          go_wp2_with fail
          refine (wstring_any B b _ X _ hB1 (by omega) (by omega)).mono ?_
          rintro e w2 ⟨rfl, hB2, hb2, hk2⟩
          have hbz := (hb.trans hb1).trans hb2
          have hkz := (hk.trans hk1).trans hk2
          have hI2 := HST.out _ _ hI1 hb2
          have hR2 := hR1.others hk2 hGb
          have hs2 := hb2.size
          rw [List.append_assoc] at hB2
          have hB9 : WB B b (l ++ joinS (xs.take (i + 1))) w2 := by
            rw [HTK.out, if_neg h0]
            exact hB2
          clear hB2
          go_wp2_with fail
          go_roundw
          case rel => exact ⟨i + 1, by omega, by go_num, hI2, hB9, by omega, hR2, hbz, hkz⟩
          case measure => simp [intOf]; omega
        · go_wp2_with fail
          refine (wbyte_any B b _ 32 _ hB (by rw [List.length_append]; omega) hBs).mono ?_
          rintro e w1 ⟨rfl, hB1, hb1, hk1⟩
          have hs1 := hb1.size
          have hI1 := HST.out _ _ hI hb1
          have hR1 := hR.others hk1 hGb
          rw [List.append_assoc] at hB1
          have hL1 : (l ++ (joinS (xs.take i) ++ [32])).length = l.length + ((joinS (xs.take i)).length + 1) := by simp
          clear hB hcl hti
          have hbq : Below B w1 w1.drew := (Below.refl _ w1).drew
          have hBq : WB B b _ w1.drew := hB1
          have hIq := HST.out _ _ hI1 hbq
          have hkq : Lib.OthersKept 5 (some b) w1 w1.drew := Lib.OthersKept.refl _ _ w1
          have hsq : w1.drew.heap.size = w1.heap.size := rfl
          have htq := HTAB.out _ hIq
          go_wp2_with fail
          go_region_held3 (fun _ => True) (first | exact trivial)
            ((first
              | (go_at_call 96
                 refine (Tryz.strconv_Itoa n hn0 hn1 _ htq).mono ?_
                 rintro e w3 ⟨rfl, k, os, hw3⟩
                 obtain ⟨hB3, hb3, hk3⟩ := after_grow hBq (by omega) k os
                 rw [← hw3] at hB3 hb3 hk3
                 have hs3 := hb3.size
                 clear hw3)
              | (go_at_call 95
                 refine (wstring_any B b _ _ _ hB3 (by omega) (by omega)).mono ?_
                 rintro e w2 ⟨rfl, hB2, hb2, hk2⟩)))
          have hbq2 := (hbq.trans hb3).trans hb2
          have hkq2 := (hkq.trans hk3).trans hk2
          have hbz := (hb.trans hb1).trans hbq2
          have hkz := (hk.trans hk1).trans hkq2
          have hI2 := HST.out _ _ hI1 hbq2
          have hR2 := hR1.others hkq2 hGb
          have hs2 := hb2.size
          rw [List.append_assoc] at hB2
          have hB9 : WB B b (l ++ joinS (xs.take (i + 1))) w2 := by
            rw [HTK.out, if_neg h0]
            exact hB2
          clear hB2
          go_wp2_with fail
          go_roundw
          case rel => exact ⟨i + 1, by omega, by go_num, hI2, hB9, by omega, hR2, hbz, hkz⟩
          case measure => simp [intOf]; omega
        · go_wp2_with fail
          refine (wbyte_any B b _ 32 _ hB (by rw [List.length_append]; omega) hBs).mono ?_
          rintro e w1 ⟨rfl, hB1, hb1, hk1⟩
          have hs1 := hb1.size
          have hI1 := HST.out _ _ hI hb1
          have hR1 := hR.others hk1 hGb
          rw [List.append_assoc] at hB1
          have hL1 : (l ++ (joinS (xs.take i) ++ [32])).length = l.length + ((joinS (xs.take i)).length + 1) := by simp
          clear hB hcl hti
          obtain ⟨O, hO⟩ : ∃ O, O = Obj.cells #[.int .i64 k, .string s, .int .i64 n, .int .i64 a, .slice A m c, .int .i64 lv] 90 := ⟨_, rfl⟩
          have hbq : Below B w1 (w1.alloc O) := (Below.refl _ w1).alloc (by omega) _
          have hBq := wb_alloc hB1 O
          have hIq := HST.out _ _ hI1 hbq
          have hkq : Lib.OthersKept 5 (some b) w1 (w1.alloc O) := (Lib.OthersKept.refl _ _ w1).alloc O
          have hsq := hbq.size
          subst hO
          go_wp2_with fail
          refine (hcall _ _ hIq hBq (by omega) (by omega)).mono ?_
          rintro e w2 ⟨rfl, hB2, hb2, hk2⟩
          have hbq2 := hbq.trans hb2
          have hkq2 := hkq.trans hk2
          have hbz := (hb.trans hb1).trans hbq2
          have hkz := (hk.trans hk1).trans hkq2
          have hI2 := HST.out _ _ hI1 hbq2
          have hR2 := hR1.others hkq2 hGb
          have hs2 := hb2.size
          rw [List.append_assoc] at hB2
          have hB9 : WB B b (l ++ joinS (xs.take (i + 1))) w2 := by
            rw [HTK.out, if_neg h0]
            exact hB2
          clear hB2
          go_wp2_with fail
          go_roundw
          case rel => exact ⟨i + 1, by omega, by go_num, hI2, hB9, by omega, hR2, hbz, hkz⟩
          case measure => simp [intOf]; omega
    · obtain rfl : i = vn := by omega
      rw [List.take_of_length_le (by omega)] at hB
      go_wp2_with fail
      go_end0
      exact ⟨rfl, hB, hb, hk⟩
end Lx
end Go.Proofs.YteabbkhlgnoliaaGreatDoor
namespace Go.Proofs.YteabbkhlgnoliaaGreatDoor
open Go.RowKit Go.Sort
namespace Lx
set_option maxRecDepth 100000
theorem wb_below {B b : Nat} {l : List UInt8} {W W' : World} (h : WB B b l W) (hb : Below W.heap.size W W') : WB B b l W' := by
  rcases h with h | h
  · obtain ⟨hB, v, hbk, hown, hne⟩ := h
    exact .inl ⟨hB, v, (hb.block b (Array.getElem?_eq_some_iff.1 hbk).1).trans hbk, own_below hown hb (Nat.le_refl _), hne⟩
  · obtain ⟨hB, v, hbk, hown, hne⟩ := h
    exact .inr ⟨hB, v, (hb.block b (Array.getElem?_eq_some_iff.1 hbk).1).trans hbk, own_below hown hb (Nat.le_refl _), hne⟩
theorem kept_below {e : TypeId} {b : Option Nat} {W W' : World} (hb : Below W.heap.size W W') : Lib.OthersKept e b W W' :=
  fun k _ h _ _ => (hb.block k (Array.getElem?_eq_some_iff.1 h).1).trans h
set_option maxHeartbeats 8000000 in
theorem part_any (B b : Nat) (Iv : World → Prop) (k n a lv : Int) (s : ByteArray) (A : Option Addr) (m c : Nat) (X l : List UInt8) (w : World)
    (hIv : Iv w) (hst : ∀ W W', Iv W → Below B W W' → Iv W') (hW : WB B b l w) (hBw : B ≤ w.heap.size) (hlen : l.length + (if lv ≤ levelN k s.data.toList m then X else 40 :: (X ++ [41])).length ≤ 1000000)
    (htree : ∀ (l : List UInt8) (W : World), Iv W → WB B b l W → B ≤ W.heap.size → l.length + X.length ≤ 1000000 → Calls Tryz.prog 32 #[.pointer (some ⟨b, 0, none⟩), .agg #[.int .i64 k, .string s, .int .i64 n, .int .i64 a, .slice A m c]] W fun e w' => WPo B b l X W e w') :
    Calls Tryz.prog 97 #[.pointer (some ⟨b, 0, none⟩), .agg #[.int .i64 k, .string s, .int .i64 n, .int .i64 a, .slice A m c, .int .i64 lv]] w fun e w' => WPo B b l (if lv ≤ levelN k s.data.toList m then X else 40 :: (X ++ [41])) w e w' := by
  obtain ⟨Y, hY⟩ : ∃ Y, Y = if lv ≤ levelN k s.data.toList m then X else 40 :: (X ++ [41]) := ⟨_, rfl⟩
  rw [← hY] at hlen ⊢
  have HY := Lib.hid hY
  clear hY
  have HST := Lib.hid hst
  have HTR := Lib.hid htree
  clear hst htree
  obtain ⟨O, hO⟩ : ∃ O, O = Obj.cells #[.int .i64 k, .string s, .int .i64 n, .int .i64 a, .slice A m c, .int .i64 lv] 90 := ⟨_, rfl⟩
  have hba : Below B w (w.alloc O) := (Below.refl _ w).alloc (by omega) _
  have hBa := wb_alloc hW O
  have hIa := HST.out _ _ hIv hba
  have hka : Lib.OthersKept 5 (some b) w (w.alloc O) := (Lib.OthersKept.refl _ _ w).alloc O
  have hsa := hba.size
  have hL : Lies (w.alloc O) w.heap.size 90 #[.int .i64 k, .string s, .int .i64 n, .int .i64 a, .slice A m c, .int .i64 lv] := by
    subst hO
    exact Lies.new _ _ _
  have hsz : (w.alloc O).heap.size = w.heap.size + 1 := by simp
  have hS : ∀ V, Below (w.heap.size + 1) (w.alloc O) V → V.cell? ⟨w.heap.size, 0, none⟩ = some (.int .i64 k) ∧ V.cell? ⟨w.heap.size, 1, none⟩ = some (.string s) ∧ V.cell? ⟨w.heap.size, 2, none⟩ = some (.int .i64 n) ∧ V.cell? ⟨w.heap.size, 3, none⟩ = some (.int .i64 a) ∧ V.cell? ⟨w.heap.size, 4, none⟩ = some (.slice A m c) ∧ V.cell? ⟨w.heap.size, 5, none⟩ = some (.int .i64 lv) := by
    intro V hb
    have h := hL.below hb (by omega)
    exact ⟨h.cell 0, h.cell 1, h.cell 2, h.cell 3, h.cell 4, h.cell 5⟩
  have HS := Lib.hid hS
  obtain ⟨W1, hW1⟩ : ∃ W1, W1 = w.alloc O := ⟨_, rfl⟩
  have hd1 : Below (w.heap.size + 1) W1 W1.drew := (Below.refl _ W1).drew
  go_enter Tryz.func97, Tryz.ntmps97
  go_wp2_with fail
  rw [← hO]
  rw [← hW1] at hba hBa hIa hka hsa hsz HS ⊢
  rw [← hW1] at hL
  have HL := Lib.hid hL
  clear hS hL hW1 hO
  go_region_held3 (fun V => V.cell? ⟨w.heap.size, 0, none⟩ = some (.int .i64 k) ∧ V.cell? ⟨w.heap.size, 1, none⟩ = some (.string s) ∧ V.cell? ⟨w.heap.size, 2, none⟩ = some (.int .i64 n) ∧ V.cell? ⟨w.heap.size, 3, none⟩ = some (.int .i64 a) ∧ V.cell? ⟨w.heap.size, 4, none⟩ = some (.slice A m c) ∧ V.cell? ⟨w.heap.size, 5, none⟩ = some (.int .i64 lv))
    (first | exact HS.out _ hd1 | exact HS.out _ hd2)
    ((first
      | (go_at_call 98
         refine (levelT_any k n a s A m c _).mono ?_
         rintro e w2 ⟨rfl, hb2⟩
         have hd2 := hd1.trans (hb2.mono (by simp; omega)))))
  have hd3 : Below W1.heap.size W1 w2 := by
    rw [hsz]
    exact hd2
  have hs2 := hd2.size
  have hB2 := wb_below hBa hd3
  have hb2' : Below B w w2 := hba.trans (hd3.mono (by omega))
  have hI2 := HST.out _ _ hIa (hd3.mono (by omega))
  have hk2 := hka.trans (kept_below (e := 5) (b := some b) hd3)
  obtain ⟨c0, c1, c2, c3, c4, c5⟩ := HS.out _ hd2
  have hL2 := HL.out.below hd2 (by omega)
  have hbW := wb_lt hW
  clear hb2 hba hBa hIa hka hd1 hsa hW hd2 hd3
  obtain ⟨Lv, hLv⟩ : ∃ Lv, Lv = levelN k s.data.toList m := ⟨_, rfl⟩
  rw [← hLv] at HY ⊢
  clear hLv
  by_cases hq : lv ≤ Lv
  · have hq' := decide_eq_true hq
    have hYX : Y = X := by rw [HY.out, if_pos hq]
    have hYl : Y.length = X.length := by rw [hYX]
    have HYX := Lib.hid hYX
    clear hYX
    go_wp2_with fail
    refine (HTR.out l _ hI2 hB2 (by omega) (by omega)).mono ?_
    rintro e w4 ⟨rfl, hB4, hb4, hk4⟩
    go_wp2_with fail
    go_end0
    rw [HYX.out]
    exact ⟨rfl, hB4, hb2'.trans hb4, hk2.trans hk4⟩
  · have hq' := decide_eq_false hq
    have hYX : Y = 40 :: (X ++ [41]) := by rw [HY.out, if_neg hq]
    have hYl : Y.length = X.length + 2 := by rw [hYX]; simp
    have HYX := Lib.hid hYX
    clear hYX
    go_wp2_with fail
    refine (wbyte_any B b _ 40 _ hB2 (by omega) (by omega)).mono ?_
    rintro e w4 ⟨rfl, hB4, hb4, hk4⟩
    have hs4 := hb4.size
    have hI4 := HST.out _ _ hI2 hb4
    have hl6 := hL2.others hk4 (by omega) (by decide)
    have d0 := hl6.cell 0
    have d1 := hl6.cell 1
    have d2 := hl6.cell 2
    have d3 := hl6.cell 3
    have d4 := hl6.cell 4
    have d5 := hl6.cell 5
    simp at d0 d1 d2 d3 d4 d5
    clear hl6
    have hl4 : (l ++ [40]).length = l.length + 1 := by simp
    clear c0 c1 c2 c3 c4 c5
    go_wp2_with fail
    refine (HTR.out _ _ hI4 hB4 (by omega) (by omega)).mono ?_
    rintro e w5 ⟨rfl, hB5, hb5, hk5⟩
    have hs5 := hb5.size
    have hl5 : (l ++ [40] ++ X).length = l.length + 1 + X.length := by simp; omega
    go_wp2_with fail
    refine (wbyte_any B b _ 41 _ hB5 (by omega) (by omega)).mono ?_
    rintro e w6 ⟨rfl, hB6, hb6, hk6⟩
    go_wp2_with fail
    go_end0
    rw [HYX.out]
    refine ⟨rfl, ?_, ((hb2'.trans hb4).trans hb5).trans hb6, ((hk2.trans hk4).trans hk5).trans hk6⟩
    simpa using hB6
end Lx
end Go.Proofs.YteabbkhlgnoliaaGreatDoor
namespace Go.Proofs.YteabbkhlgnoliaaGreatDoor
open Go.RowKit Go.Sort
namespace Lx
set_option maxRecDepth 100000
/-- What the writer's tree writes of a tree that lies in W0. -/
def TreeC (W0 : World) (b : Nat) (t : Tr) (A : Option Addr) (c : Nat) : Prop :=
  ∀ (l : List UInt8) (W : World), Below W0.heap.size W0 W → WB W0.heap.size b l W → W0.heap.size ≤ W.heap.size → l.length + (showT t).length ≤ 1000000 →
    Calls Tryz.prog 32 #[.pointer (some ⟨b, 0, none⟩), .agg #[.int .i64 t.kind, .string t.name, .int .i64 t.n, .int .i64 t.place, .slice A t.parts.length (capF t.parts.length c)]] W fun e w' => WPo W0.heap.size b l (showT t) W e w'
theorem level_N (t : Tr) : levelT t = levelN t.kind t.name.data.toList t.parts.length := by cases t; rfl
theorem par_if (lv : Int) (t : Tr) : parS lv (levelT t, showT t) = if lv ≤ levelN t.kind t.name.data.toList t.parts.length then showT t else 40 :: (showT t ++ [41]) := by
  unfold parS; rw [level_N]; rfl
theorem wd_part (W0 : World) (b : Nat) (t : Tr) (A : Option Addr) (c : Nat) (lv : Int) (h : TreeC W0 b t A c) :
    WdIs W0.heap.size b (Below W0.heap.size W0) (.iface 90 (.agg #[.int .i64 t.kind, .string t.name, .int .i64 t.n, .int .i64 t.place, .slice A t.parts.length (capF t.parts.length c), .int .i64 lv])) (parS lv (levelT t, showT t)) := by
  refine .inr (.inr ⟨_, _, _, _, _, _, _, _, rfl, fun l W hI hW hB hl => ?_⟩)
  rw [par_if] at hl ⊢
  exact part_any W0.heap.size b (Below W0.heap.size W0) t.kind t.n t.place lv t.name A t.parts.length (capF t.parts.length c) (showT t) l W hI (fun _ _ h1 h2 => h1.trans h2) hW hB hl (fun l W h1 h2 h3 h4 => h l W h1 h2 h3 h4)
theorem mk_list (s : ByteArray) : (⟨s.data.toList.toArray⟩ : ByteArray) = s := by cases s; simp
theorem wd_name (B b : Nat) (Iv : World → Prop) (s : ByteArray) : WdIs B b Iv (.iface 9 (.string s)) s.data.toList := .inl (by rw [mk_list])
theorem wd_lit (B b : Nat) (Iv : World → Prop) (l : List UInt8) : WdIs B b Iv (.iface 9 (.string ⟨l.toArray⟩)) l := .inl rfl
theorem any_new (W : World) (vs : List Value) : AnyRow (W.alloc (.cells vs.toArray 20)) W.heap.size vs :=
  ⟨vs.toArray, (0, 0), (Lies.new W _ vs.toArray), fun i v h => by simpa using h⟩
theorem tabs_iv {W0 : World} (h : Lib.TabIs Tryz.prog W0 "internal/strconv.uint64pow10" .u64 Lib.pow10Tab) : ∀ W, Below W0.heap.size W0 W → Lib.TabIs Tryz.prog W "internal/strconv.uint64pow10" .u64 Lib.pow10Tab := fun W hb => by
  unfold Lib.TabIs World.var? at *
  cases hg : Tryz.prog.globalNamed "internal/strconv.uint64pow10" with
  | none => simp [hg] at h
  | some g =>
    simp only [hg, Option.bind_some] at h ⊢
    have hlt : g < W0.heap.size := by
      rcases Nat.lt_or_ge g W0.heap.size with h' | h'
      · exact h'
      · rw [Array.getElem?_eq_none h'] at h; simp at h
    rw [hb.block g hlt]
    exact h
/-- Words, all of whose texts are known. -/
def WdsAre (B b : Nat) (Iv : World → Prop) (vs : List Value) (xs : List (List UInt8)) : Prop := ∀ (i : Nat) (v : Value) (x : List UInt8), vs[i]? = some v → xs[i]? = some x → WdIs B b Iv v x
theorem wds_nil {B b : Nat} {Iv : World → Prop} : WdsAre B b Iv [] [] := fun i v x h _ => by simp at h
theorem wds_cons {B b : Nat} {Iv : World → Prop} {v : Value} {x : List UInt8} {vs : List Value} {xs : List (List UInt8)} (h : WdIs B b Iv v x) (h2 : WdsAre B b Iv vs xs) : WdsAre B b Iv (v :: vs) (x :: xs)
  | 0, u, y, hu, hy => by
    simp only [List.getElem?_cons_zero, Option.some.injEq] at hu hy
    subst hu hy
    exact h
  | i + 1, u, y, hu, hy => by
    simp only [List.getElem?_cons_succ] at hu hy
    exact h2 i u y hu hy
theorem wds_app {B b : Nat} {Iv : World → Prop} : ∀ {vs : List Value} {xs : List (List UInt8)} {us : List Value} {ys : List (List UInt8)}, vs.length = xs.length → WdsAre B b Iv vs xs → WdsAre B b Iv us ys → WdsAre B b Iv (vs ++ us) (xs ++ ys)
  | [], [], _, _, _, _, h => h
  | [], _ :: _, _, _, h, _, _ => by simp at h
  | _ :: _, [], _, _, h, _, _ => by simp at h
  | v :: vs, x :: xs, us, ys, h, h1, h2 => by
    refine wds_cons (h1 0 v x rfl rfl) (wds_app (by simpa using h) (fun i u y hu hy => h1 (i + 1) u y (by simpa using hu) (by simpa using hy)) h2)
/-- Two parts of a tree, in memory. -/
theorem LIn.pair {w : World} {X : Nat → Prop} {p0 p1 : Tr} {A : Option Addr} (h : LIn w X [p0, p1] A 0) : ∃ g o A0 c0 A1 c1, A = some ⟨g, o, none⟩ ∧
    (w.cell? ⟨g, o, none⟩ = some (.int .i64 p0.kind) ∧ w.cell? ⟨g, o + 1, none⟩ = some (.string p0.name) ∧ w.cell? ⟨g, o + 2, none⟩ = some (.int .i64 p0.n) ∧ w.cell? ⟨g, o + 3, none⟩ = some (.int .i64 p0.place) ∧ w.cell? ⟨g, o + 4, none⟩ = some (.slice A0 p0.parts.length (capF p0.parts.length c0))) ∧
    (w.cell? ⟨g, o + 5, none⟩ = some (.int .i64 p1.kind) ∧ w.cell? ⟨g, o + 5 + 1, none⟩ = some (.string p1.name) ∧ w.cell? ⟨g, o + 5 + 2, none⟩ = some (.int .i64 p1.n) ∧ w.cell? ⟨g, o + 5 + 3, none⟩ = some (.int .i64 p1.place) ∧ w.cell? ⟨g, o + 5 + 4, none⟩ = some (.slice A1 p1.parts.length (capF p1.parts.length c1))) ∧
    TIn w X p0 A0 ∧ TIn w X p1 A1 := by
  rw [LIn, LIn] at h
  obtain ⟨⟨g, o, A0, c0, ⟨e, hX⟩, h0, h1, h2, h3, h4, ht⟩, ⟨g', o', A1, c1, ⟨e', hX'⟩, k0, k1, k2, k3, k4, kt⟩, _⟩ := h
  rw [e] at e'
  simp only [Option.some.injEq, Addr.mk.injEq] at e'
  obtain ⟨rfl, rfl, _⟩ := e'
  exact ⟨g, o, A0, c0, A1, c1, e, ⟨h0, h1, h2, h3, h4⟩, ⟨k0, k1, k2, k3, k4⟩, ht, kt⟩
theorem tin_lin {w : World} {X : Nat → Prop} {k n a : Int} {s : ByteArray} {l : List Tr} {A : Option Addr} (h : TIn w X (.node k s n a l) A) : LIn w X l A 0 := by rw [TIn] at h; exact h.2.2
/-- The call of words with a row that was just made. -/
theorem words_row (W0 : World) (b : Nat) (htab : Lib.TabIs Tryz.prog W0 "internal/strconv.uint64pow10" .u64 Lib.pow10Tab) (vs : List Value) (xs : List (List UInt8)) (vn : Nat) (hn : vn = vs.length) (hn2 : vs.length = xs.length) (hns : vn ≤ 1000)
    (hws : WdsAre W0.heap.size b (Below W0.heap.size W0) vs xs) (l : List UInt8) (W1 : World) (G : Nat) (hG : W1.heap.size = G) (hI : Below W0.heap.size W0 W1) (hB : WB W0.heap.size b l W1) (hlen : l.length + (joinS xs).length ≤ 1000000) :
    Calls Tryz.prog 53 #[.pointer (some ⟨b, 0, none⟩), .slice (some ⟨G, 0, none⟩) vn vn] (W1.alloc (.cells vs.toArray 20)).drew fun e w' => WPo W0.heap.size b l (joinS xs) W1 e w' := by
  subst hG
  have hs := hI.size
  have hbW := wb_lt hB
  have hb1 : Below W0.heap.size W1 (W1.alloc (.cells vs.toArray 20)).drew := ((Below.refl _ W1).alloc (by omega) _).drew
  have hk1 : Lib.OthersKept 5 (some b) W1 (W1.alloc (.cells vs.toArray 20)).drew := (Lib.OthersKept.refl _ _ W1).alloc _
  have hB1 : WB W0.heap.size b l (W1.alloc (.cells vs.toArray 20)).drew := wb_alloc hB _
  have hR : AnyRow (W1.alloc (.cells vs.toArray 20)).drew W1.heap.size vs := any_new W1 vs
  refine (words_any W0.heap.size b W1.heap.size (Below W0.heap.size W0) vs xs vn vn l _ hn hn2 hns (hI.trans hb1) (fun _ _ h1 h2 => h1.trans h2) hB1 (Nat.le_trans hs hb1.size) hR (by omega) hlen (tabs_iv htab) hws).mono ?_
  rintro e w' ⟨rfl, h1, h2, h3⟩
  exact ⟨rfl, h1, hb1.trans h2, hk1.trans h3⟩
set_option maxHeartbeats 8000000 in
theorem wlet_any (W0 : World) (b : Nat) (wdd : List UInt8) (k n a : Int) (s : ByteArray) (p0 p1 : Tr) (A : Option Addr) (c : Nat) (htab : Lib.TabIs Tryz.prog W0 "internal/strconv.uint64pow10" .u64 Lib.pow10Tab)
    (hT : TIn W0 Any (.node k s n a [p0, p1]) A) (hC0 : ∀ A' c', TIn W0 Any p0 A' → TreeC W0 b p0 A' c') (hC1 : ∀ A' c', TIn W0 Any p1 A' → TreeC W0 b p1 A' c')
    (l : List UInt8) (W : World) (hI : Below W0.heap.size W0 W) (hW : WB W0.heap.size b l W) (hBw : W0.heap.size ≤ W.heap.size)
    (hlen : l.length + (joinS [wdd, s.data.toList, [61], parS 0 (levelT p0, showT p0), [105, 110], parS 0 (levelT p1, showT p1)]).length ≤ 1000000) :
    Calls Tryz.prog 54 #[.pointer (some ⟨b, 0, none⟩), .string ⟨wdd.toArray⟩, .agg #[.int .i64 k, .string s, .int .i64 n, .int .i64 a, .slice A 2 c]] W
      fun e w' => WPo W0.heap.size b l (joinS [wdd, s.data.toList, [61], parS 0 (levelT p0, showT p0), [105, 110], parS 0 (levelT p1, showT p1)]) W e w' := by
  obtain ⟨g, o, A0, c0, A1, c1, rfl, hp, hq, hT0, hT1⟩ := LIn.pair (tin_lin hT)
  have hg : g < W0.heap.size := cell_lt hp.1
  have wd0 := wd_part W0 b p0 A0 c0 0 (hC0 _ _ hT0)
  have wd1 := wd_part W0 b p1 A1 c1 0 (hC1 _ _ hT1)
  obtain ⟨Y, hY⟩ : ∃ Y, Y = joinS [wdd, s.data.toList, [61], parS 0 (levelT p0, showT p0), [105, 110], parS 0 (levelT p1, showT p1)] := ⟨_, rfl⟩
  rw [← hY] at hlen ⊢
  have hws : WdsAre W0.heap.size b (Below W0.heap.size W0) [.iface 9 (.string ⟨wdd.toArray⟩), .iface 9 (.string s), .iface 9 (.string ⟨#[61]⟩), .iface 90 (.agg #[.int .i64 p0.kind, .string p0.name, .int .i64 p0.n, .int .i64 p0.place, .slice A0 p0.parts.length (capF p0.parts.length c0), .int .i64 0]), .iface 9 (.string ⟨#[105, 110]⟩), .iface 90 (.agg #[.int .i64 p1.kind, .string p1.name, .int .i64 p1.n, .int .i64 p1.place, .slice A1 p1.parts.length (capF p1.parts.length c1), .int .i64 0])] [wdd, s.data.toList, [61], parS 0 (levelT p0, showT p0), [105, 110], parS 0 (levelT p1, showT p1)] :=
    wds_cons (wd_lit _ _ _ _) (wds_cons (wd_name _ _ _ _) (wds_cons (wd_lit _ _ _ [61]) (wds_cons wd0 (wds_cons (wd_lit _ _ _ [105, 110]) (wds_cons wd1 wds_nil)))))
  obtain ⟨O, hO⟩ : ∃ O, O = Obj.cells #[.int .i64 k, .string s, .int .i64 n, .int .i64 a, .slice (some ⟨g, o, none⟩) 2 c] 24 := ⟨_, rfl⟩
  have hba : Below W0.heap.size W (W.alloc O) := (Below.refl _ W).alloc (by omega) _
  have hBa := wb_alloc hW O
  have hIa := hI.trans hba
  have hka : Lib.OthersKept 5 (some b) W (W.alloc O) := (Lib.OthersKept.refl _ _ W).alloc O
  have hsa := hba.size
  have hL : Lies (W.alloc O) W.heap.size 24 #[.int .i64 k, .string s, .int .i64 n, .int .i64 a, .slice (some ⟨g, o, none⟩) 2 c] := by
    subst hO
    exact Lies.new _ _ _
  have hsz : (W.alloc O).heap.size = W.heap.size + 1 := by simp
  have hbW := wb_lt hW
  have hS : ∀ V, Below (W.heap.size + 1) (W.alloc O) V → V.cell? ⟨W.heap.size, 1, none⟩ = some (.string s) ∧ V.cell? ⟨W.heap.size, 4, none⟩ = some (.slice (some ⟨g, o, none⟩) 2 c) ∧
      V.cell? ⟨g, o, none⟩ = some (.int .i64 p0.kind) ∧ V.cell? ⟨g, o + 1, none⟩ = some (.string p0.name) ∧ V.cell? ⟨g, o + 2, none⟩ = some (.int .i64 p0.n) ∧ V.cell? ⟨g, o + 3, none⟩ = some (.int .i64 p0.place) ∧ V.cell? ⟨g, o + 4, none⟩ = some (.slice A0 p0.parts.length (capF p0.parts.length c0)) ∧
      V.cell? ⟨g, o + 5, none⟩ = some (.int .i64 p1.kind) ∧ V.cell? ⟨g, o + 5 + 1, none⟩ = some (.string p1.name) ∧ V.cell? ⟨g, o + 5 + 2, none⟩ = some (.int .i64 p1.n) ∧ V.cell? ⟨g, o + 5 + 3, none⟩ = some (.int .i64 p1.place) ∧ V.cell? ⟨g, o + 5 + 4, none⟩ = some (.slice A1 p1.parts.length (capF p1.parts.length c1)) := by
    intro V hb
    have h := hL.below hb (by omega)
    have hb2 := hIa.trans (hb.mono (by omega))
    have hc : ∀ j, V.cell? ⟨g, j, none⟩ = W0.cell? ⟨g, j, none⟩ := fun j => hb2.cell (p := ⟨g, j, none⟩) hg
    exact ⟨h.cell 1, h.cell 4, (hc _).trans hp.1, (hc _).trans hp.2.1, (hc _).trans hp.2.2.1, (hc _).trans hp.2.2.2.1, (hc _).trans hp.2.2.2.2, (hc _).trans hq.1, (hc _).trans hq.2.1, (hc _).trans hq.2.2.1, (hc _).trans hq.2.2.2.1, (hc _).trans hq.2.2.2.2⟩
  have HC := words_row W0 b htab _ _ 6 rfl rfl (by decide) hws l (W.alloc O) (W.heap.size + 1) hsz hIa hBa (by rw [← hY]; exact hlen)
  rw [← hY] at HC
  have HS := Lib.hid hS
  have hS2 : ∀ V V', Below (W.heap.size + 1) (W.alloc O) V → Below W0.heap.size V V' → Lib.OthersKept 5 (some b) V V' → V'.cell? ⟨W.heap.size, 1, none⟩ = some (.string s) ∧ V'.cell? ⟨W.heap.size, 4, none⟩ = some (.slice (some ⟨g, o, none⟩) 2 c) ∧
      V'.cell? ⟨g, o, none⟩ = some (.int .i64 p0.kind) ∧ V'.cell? ⟨g, o + 1, none⟩ = some (.string p0.name) ∧ V'.cell? ⟨g, o + 2, none⟩ = some (.int .i64 p0.n) ∧ V'.cell? ⟨g, o + 3, none⟩ = some (.int .i64 p0.place) ∧ V'.cell? ⟨g, o + 4, none⟩ = some (.slice A0 p0.parts.length (capF p0.parts.length c0)) ∧
      V'.cell? ⟨g, o + 5, none⟩ = some (.int .i64 p1.kind) ∧ V'.cell? ⟨g, o + 5 + 1, none⟩ = some (.string p1.name) ∧ V'.cell? ⟨g, o + 5 + 2, none⟩ = some (.int .i64 p1.n) ∧ V'.cell? ⟨g, o + 5 + 3, none⟩ = some (.int .i64 p1.place) ∧ V'.cell? ⟨g, o + 5 + 4, none⟩ = some (.slice A1 p1.parts.length (capF p1.parts.length c1)) := by
    intro V V' hb hb2 hk
    have h := (hL.below hb (by omega)).others hk (by omega) (by decide)
    have hb3 := (hIa.trans (hb.mono (by omega))).trans hb2
    have hc : ∀ j, V'.cell? ⟨g, j, none⟩ = W0.cell? ⟨g, j, none⟩ := fun j => hb3.cell (p := ⟨g, j, none⟩) hg
    exact ⟨h.cell 1, h.cell 4, (hc _).trans hp.1, (hc _).trans hp.2.1, (hc _).trans hp.2.2.1, (hc _).trans hp.2.2.2.1, (hc _).trans hp.2.2.2.2, (hc _).trans hq.1, (hc _).trans hq.2.1, (hc _).trans hq.2.2.1, (hc _).trans hq.2.2.2.1, (hc _).trans hq.2.2.2.2⟩
  have HS2 := Lib.hid hS2
  obtain ⟨W1, hW1⟩ : ∃ W1, W1 = W.alloc O := ⟨_, rfl⟩
  have hd1 : Below (W.heap.size + 1) W1 W1.drew := (Below.refl _ W1).drew
  clear hp hq hg hY hws wd0 wd1 htab hT hC0 hC1 hT0 hT1
  go_enter Tryz.func54, Tryz.ntmps54
  go_wp2_with fail
  rw [← hO]
  rw [← hW1] at hba hBa hIa hka hsa hsz HS HS2 ⊢
  rw [← hW1] at HC
  have HC := Lib.hid HC
  clear hS hS2 hL hW1 hO
  go_region_held3 (fun V => V.cell? ⟨W.heap.size, 1, none⟩ = some (.string s) ∧ V.cell? ⟨W.heap.size, 4, none⟩ = some (.slice (some ⟨g, o, none⟩) 2 c) ∧
      V.cell? ⟨g, o, none⟩ = some (.int .i64 p0.kind) ∧ V.cell? ⟨g, o + 1, none⟩ = some (.string p0.name) ∧ V.cell? ⟨g, o + 2, none⟩ = some (.int .i64 p0.n) ∧ V.cell? ⟨g, o + 3, none⟩ = some (.int .i64 p0.place) ∧ V.cell? ⟨g, o + 4, none⟩ = some (.slice A0 p0.parts.length (capF p0.parts.length c0)) ∧
      V.cell? ⟨g, o + 5, none⟩ = some (.int .i64 p1.kind) ∧ V.cell? ⟨g, o + 5 + 1, none⟩ = some (.string p1.name) ∧ V.cell? ⟨g, o + 5 + 2, none⟩ = some (.int .i64 p1.n) ∧ V.cell? ⟨g, o + 5 + 3, none⟩ = some (.int .i64 p1.place) ∧ V.cell? ⟨g, o + 5 + 4, none⟩ = some (.slice A1 p1.parts.length (capF p1.parts.length c1)))
    (first | exact HS.out _ hd1 | exact HS.out _ ((Below.refl _ W1).alloc (by omega) _).drew | exact HS2.out _ _ (Below.refl _ W1) hb2 hk2)
    ((first
      | (go_at_call 53
         refine HC.out.mono ?_
         rintro e w2 ⟨rfl, hB2, hb2, hk2⟩)))
  go_wp2_with fail
  go_end0
  exact ⟨rfl, hB2, hba.trans hb2, hka.trans hk2⟩
end Lx
end Go.Proofs.YteabbkhlgnoliaaGreatDoor
namespace Go.Proofs.YteabbkhlgnoliaaGreatDoor
open Go.RowKit Go.Sort
namespace Lx
set_option maxRecDepth 100000
theorem par_in (t : Tr) : parS 6 (levelT t, showT t) = parS 4 (-1, showT t) := by
  have h : levelT t < 6 := by
    obtain ⟨k, s, n, a, l⟩ := t
    simp only [levelT, levelN, levelS]
    repeat' split
    all_goals decide
  unfold parS
  rw [if_neg (by simp only; omega), if_neg (by simp only; omega)]
set_option maxHeartbeats 8000000 in
theorem wop_any1 (W0 : World) (b : Nat) (n a : Int) (s : ByteArray) (p0 p1 : Tr) (A : Option Addr) (c : Nat) (hlv : levelS s.data.toList = 1) (htab : Lib.TabIs Tryz.prog W0 "internal/strconv.uint64pow10" .u64 Lib.pow10Tab)
    (hT : TIn W0 Any (.node 10 s n a [p0, p1]) A) (hC0 : ∀ A' c', TIn W0 Any p0 A' → TreeC W0 b p0 A' c') (hC1 : ∀ A' c', TIn W0 Any p1 A' → TreeC W0 b p1 A' c')
    (l : List UInt8) (W : World) (hI : Below W0.heap.size W0 W) (hW : WB W0.heap.size b l W) (hBw : W0.heap.size ≤ W.heap.size)
    (hlen : l.length + (joinS [parS 2 (levelT p0, showT p0), s.data.toList, parS 2 (levelT p1, showT p1)]).length ≤ 1000000) :
    Calls Tryz.prog 57 #[.pointer (some ⟨b, 0, none⟩), .agg #[.int .i64 10, .string s, .int .i64 n, .int .i64 a, .slice A 2 c]] W
      fun e w' => WPo W0.heap.size b l (joinS [parS 2 (levelT p0, showT p0), s.data.toList, parS 2 (levelT p1, showT p1)]) W e w' := by
  obtain ⟨g, o, A0, c0, A1, c1, rfl, hp, hq, hT0, hT1⟩ := LIn.pair (tin_lin hT)
  have hg : g < W0.heap.size := cell_lt hp.1
  have wd0 := wd_part W0 b p0 A0 c0 2 (hC0 _ _ hT0)
  have wd1 := wd_part W0 b p1 A1 c1 2 (hC1 _ _ hT1)
  obtain ⟨Y, hY⟩ : ∃ Y, Y = joinS [parS 2 (levelT p0, showT p0), s.data.toList, parS 2 (levelT p1, showT p1)] := ⟨_, rfl⟩
  rw [← hY] at hlen ⊢
  have hws : WdsAre W0.heap.size b (Below W0.heap.size W0) [.iface 90 (.agg #[.int .i64 p0.kind, .string p0.name, .int .i64 p0.n, .int .i64 p0.place, .slice A0 p0.parts.length (capF p0.parts.length c0), .int .i64 2]), .iface 9 (.string s), .iface 90 (.agg #[.int .i64 p1.kind, .string p1.name, .int .i64 p1.n, .int .i64 p1.place, .slice A1 p1.parts.length (capF p1.parts.length c1), .int .i64 2])] [parS 2 (levelT p0, showT p0), s.data.toList, parS 2 (levelT p1, showT p1)] :=
    wds_cons wd0 (wds_cons (wd_name _ _ _ _) (wds_cons wd1 wds_nil))
  have HCC := fun (W1 : World) (h1 : Below W0.heap.size W0 W1) (h2 : WB W0.heap.size b l W1) => words_row W0 b htab _ _ 3 rfl rfl (by decide) hws l W1 W1.heap.size rfl h1 h2 (by rw [← hY]; exact hlen)
  rw [← hY] at HCC
  have HCC := Lib.hid HCC
  clear hY hws wd0 wd1 htab hT hC0 hC1 hT0 hT1
  obtain ⟨O, hO⟩ : ∃ O, O = Obj.cells #[.int .i64 10, .string s, .int .i64 n, .int .i64 a, .slice (some ⟨g, o, none⟩) 2 c] 24 := ⟨_, rfl⟩
  have hba : Below W0.heap.size W (W.alloc O) := (Below.refl _ W).alloc (by omega) _
  have hBa := wb_alloc hW O
  have hIa := hI.trans hba
  have hka : Lib.OthersKept 5 (some b) W (W.alloc O) := (Lib.OthersKept.refl _ _ W).alloc O
  have hsa := hba.size
  have hL : Lies (W.alloc O) W.heap.size 24 #[.int .i64 10, .string s, .int .i64 n, .int .i64 a, .slice (some ⟨g, o, none⟩) 2 c] := by
    subst hO
    exact Lies.new _ _ _
  have hsz : (W.alloc O).heap.size = W.heap.size + 1 := by simp
  have hbW := wb_lt hW
  have hS : ∀ V, Below (W.heap.size + 1) (W.alloc O) V → V.cell? ⟨W.heap.size, 1, none⟩ = some (.string s) ∧ V.cell? ⟨W.heap.size, 4, none⟩ = some (.slice (some ⟨g, o, none⟩) 2 c) ∧ V.cell? ⟨g, o, none⟩ = some (.int .i64 p0.kind) ∧ V.cell? ⟨g, o + 1, none⟩ = some (.string p0.name) ∧ V.cell? ⟨g, o + 2, none⟩ = some (.int .i64 p0.n) ∧ V.cell? ⟨g, o + 3, none⟩ = some (.int .i64 p0.place) ∧ V.cell? ⟨g, o + 4, none⟩ = some (.slice A0 p0.parts.length (capF p0.parts.length c0)) ∧ V.cell? ⟨g, o + 5, none⟩ = some (.int .i64 p1.kind) ∧ V.cell? ⟨g, o + 5 + 1, none⟩ = some (.string p1.name) ∧ V.cell? ⟨g, o + 5 + 2, none⟩ = some (.int .i64 p1.n) ∧ V.cell? ⟨g, o + 5 + 3, none⟩ = some (.int .i64 p1.place) ∧ V.cell? ⟨g, o + 5 + 4, none⟩ = some (.slice A1 p1.parts.length (capF p1.parts.length c1)) := by
    intro V hb
    have h := hL.below hb (by omega)
    have hb2 := hIa.trans (hb.mono (by omega))
    have hc : ∀ j, V.cell? ⟨g, j, none⟩ = W0.cell? ⟨g, j, none⟩ := fun j => hb2.cell (p := ⟨g, j, none⟩) hg
    exact ⟨h.cell 1, h.cell 4, (hc _).trans hp.1, (hc _).trans hp.2.1, (hc _).trans hp.2.2.1, (hc _).trans hp.2.2.2.1, (hc _).trans hp.2.2.2.2, (hc _).trans hq.1, (hc _).trans hq.2.1, (hc _).trans hq.2.2.1, (hc _).trans hq.2.2.2.1, (hc _).trans hq.2.2.2.2⟩
  have HS := Lib.hid hS
  have hS2 : ∀ V V', Below (W.heap.size + 1) (W.alloc O) V → Below W0.heap.size V V' → Lib.OthersKept 5 (some b) V V' → V'.cell? ⟨W.heap.size, 1, none⟩ = some (.string s) ∧ V'.cell? ⟨W.heap.size, 4, none⟩ = some (.slice (some ⟨g, o, none⟩) 2 c) ∧ V'.cell? ⟨g, o, none⟩ = some (.int .i64 p0.kind) ∧ V'.cell? ⟨g, o + 1, none⟩ = some (.string p0.name) ∧ V'.cell? ⟨g, o + 2, none⟩ = some (.int .i64 p0.n) ∧ V'.cell? ⟨g, o + 3, none⟩ = some (.int .i64 p0.place) ∧ V'.cell? ⟨g, o + 4, none⟩ = some (.slice A0 p0.parts.length (capF p0.parts.length c0)) ∧ V'.cell? ⟨g, o + 5, none⟩ = some (.int .i64 p1.kind) ∧ V'.cell? ⟨g, o + 5 + 1, none⟩ = some (.string p1.name) ∧ V'.cell? ⟨g, o + 5 + 2, none⟩ = some (.int .i64 p1.n) ∧ V'.cell? ⟨g, o + 5 + 3, none⟩ = some (.int .i64 p1.place) ∧ V'.cell? ⟨g, o + 5 + 4, none⟩ = some (.slice A1 p1.parts.length (capF p1.parts.length c1)) := by
    intro V V' hb hb2 hk
    have h := (hL.below hb (by omega)).others hk (by omega) (by decide)
    have hb3 := (hIa.trans (hb.mono (by omega))).trans hb2
    have hc : ∀ j, V'.cell? ⟨g, j, none⟩ = W0.cell? ⟨g, j, none⟩ := fun j => hb3.cell (p := ⟨g, j, none⟩) hg
    exact ⟨h.cell 1, h.cell 4, (hc _).trans hp.1, (hc _).trans hp.2.1, (hc _).trans hp.2.2.1, (hc _).trans hp.2.2.2.1, (hc _).trans hp.2.2.2.2, (hc _).trans hq.1, (hc _).trans hq.2.1, (hc _).trans hq.2.2.1, (hc _).trans hq.2.2.2.1, (hc _).trans hq.2.2.2.2⟩
  have HS2 := Lib.hid hS2
  obtain ⟨W1, hW1⟩ : ∃ W1, W1 = W.alloc O := ⟨_, rfl⟩
  have hW1' := hW1
  have HLV : ∀ w, Calls Tryz.prog 98 #[.agg #[.int .i64 10, .string s, .int .i64 n, .int .i64 a, .slice (some ⟨g, o, none⟩) 2 c]] w fun e w' => e = .returned (.int .i64 1) ∧ Below w.heap.size w w' := fun w => by
    have h := levelT_any 10 n a s (some ⟨g, o, none⟩) 2 c w
    have e : levelN 10 s.data.toList 2 = 1 := by simpa [levelN] using hlv
    rw [e] at h
    exact h
  have HLV := Lib.hid HLV
  clear hp hq hg hlv
  go_enter Tryz.func57, Tryz.ntmps57
  go_wp2_with fail
  rw [← hO]
  rw [← hW1] at hba hBa hIa hka hsa hsz HS HS2 ⊢
  clear hS hS2 hW1
  obtain ⟨hL0, hL1, hL2, hL3, hL4⟩ : W1.cell? ⟨W.heap.size, 0, none⟩ = some (.int .i64 10) ∧ W1.cell? ⟨W.heap.size, 1, none⟩ = some (.string s) ∧ W1.cell? ⟨W.heap.size, 2, none⟩ = some (.int .i64 n) ∧ W1.cell? ⟨W.heap.size, 3, none⟩ = some (.int .i64 a) ∧ W1.cell? ⟨W.heap.size, 4, none⟩ = some (.slice (some ⟨g, o, none⟩) 2 c) := by
    rw [← hW1'] at hL
    exact ⟨hL.cell 0, hL.cell 1, hL.cell 2, hL.cell 3, hL.cell 4⟩
  clear hL hO
  go_wp2_with fail
  refine (HLV.out _).mono ?_
  rintro e wx ⟨rfl, hbx⟩
  have hd0 : Below (W.heap.size + 1) W1 wx := hbx.mono (by omega)
  have hs0 := hd0.size
  have hd1 : Below (W.heap.size + 1) W1 wx.drew := hd0.drew
  have HC := Lib.hid (HCC.out wx (hIa.trans (hd0.mono (by omega))) (wb_below hBa hbx))
  have hkx := hka.trans (kept_below (e := 5) (b := some b) hbx)
  have hbz := hba.trans (hd0.mono (by omega))
  clear hbx HCC HLV hba hBa hIa hka hL0 hL1 hL2 hL3 hL4
  go_wp2_with fail
  go_region_held3 (fun V => V.cell? ⟨W.heap.size, 1, none⟩ = some (.string s) ∧ V.cell? ⟨W.heap.size, 4, none⟩ = some (.slice (some ⟨g, o, none⟩) 2 c) ∧ V.cell? ⟨g, o, none⟩ = some (.int .i64 p0.kind) ∧ V.cell? ⟨g, o + 1, none⟩ = some (.string p0.name) ∧ V.cell? ⟨g, o + 2, none⟩ = some (.int .i64 p0.n) ∧ V.cell? ⟨g, o + 3, none⟩ = some (.int .i64 p0.place) ∧ V.cell? ⟨g, o + 4, none⟩ = some (.slice A0 p0.parts.length (capF p0.parts.length c0)) ∧ V.cell? ⟨g, o + 5, none⟩ = some (.int .i64 p1.kind) ∧ V.cell? ⟨g, o + 5 + 1, none⟩ = some (.string p1.name) ∧ V.cell? ⟨g, o + 5 + 2, none⟩ = some (.int .i64 p1.n) ∧ V.cell? ⟨g, o + 5 + 3, none⟩ = some (.int .i64 p1.place) ∧ V.cell? ⟨g, o + 5 + 4, none⟩ = some (.slice A1 p1.parts.length (capF p1.parts.length c1)))
    (first | exact HS.out _ hd1 | exact HS.out _ ((hd0.alloc (by omega) _).drew) | exact HS2.out _ _ hd0 hb2 hk2)
    ((first
      | (go_at_call 53
         refine HC.out.mono ?_
         rintro e w2 ⟨rfl, hB2, hb2, hk2⟩)))
  go_wp2_with fail
  go_end0
  exact ⟨rfl, hB2, hbz.trans hb2, hkx.trans hk2⟩
set_option maxHeartbeats 8000000 in
theorem wop_any2 (W0 : World) (b : Nat) (n a : Int) (s : ByteArray) (p0 p1 : Tr) (A : Option Addr) (c : Nat) (hlv : levelS s.data.toList = 2) (htab : Lib.TabIs Tryz.prog W0 "internal/strconv.uint64pow10" .u64 Lib.pow10Tab)
    (hT : TIn W0 Any (.node 10 s n a [p0, p1]) A) (hC0 : ∀ A' c', TIn W0 Any p0 A' → TreeC W0 b p0 A' c') (hC1 : ∀ A' c', TIn W0 Any p1 A' → TreeC W0 b p1 A' c')
    (l : List UInt8) (W : World) (hI : Below W0.heap.size W0 W) (hW : WB W0.heap.size b l W) (hBw : W0.heap.size ≤ W.heap.size)
    (hlen : l.length + (joinS [parS 2 (levelT p0, showT p0), s.data.toList, parS 3 (levelT p1, showT p1)]).length ≤ 1000000) :
    Calls Tryz.prog 57 #[.pointer (some ⟨b, 0, none⟩), .agg #[.int .i64 10, .string s, .int .i64 n, .int .i64 a, .slice A 2 c]] W
      fun e w' => WPo W0.heap.size b l (joinS [parS 2 (levelT p0, showT p0), s.data.toList, parS 3 (levelT p1, showT p1)]) W e w' := by
  obtain ⟨g, o, A0, c0, A1, c1, rfl, hp, hq, hT0, hT1⟩ := LIn.pair (tin_lin hT)
  have hg : g < W0.heap.size := cell_lt hp.1
  have wd0 := wd_part W0 b p0 A0 c0 2 (hC0 _ _ hT0)
  have wd1 := wd_part W0 b p1 A1 c1 3 (hC1 _ _ hT1)
  obtain ⟨Y, hY⟩ : ∃ Y, Y = joinS [parS 2 (levelT p0, showT p0), s.data.toList, parS 3 (levelT p1, showT p1)] := ⟨_, rfl⟩
  rw [← hY] at hlen ⊢
  have hws : WdsAre W0.heap.size b (Below W0.heap.size W0) [.iface 90 (.agg #[.int .i64 p0.kind, .string p0.name, .int .i64 p0.n, .int .i64 p0.place, .slice A0 p0.parts.length (capF p0.parts.length c0), .int .i64 2]), .iface 9 (.string s), .iface 90 (.agg #[.int .i64 p1.kind, .string p1.name, .int .i64 p1.n, .int .i64 p1.place, .slice A1 p1.parts.length (capF p1.parts.length c1), .int .i64 3])] [parS 2 (levelT p0, showT p0), s.data.toList, parS 3 (levelT p1, showT p1)] :=
    wds_cons wd0 (wds_cons (wd_name _ _ _ _) (wds_cons wd1 wds_nil))
  have HCC := fun (W1 : World) (h1 : Below W0.heap.size W0 W1) (h2 : WB W0.heap.size b l W1) => words_row W0 b htab _ _ 3 rfl rfl (by decide) hws l W1 W1.heap.size rfl h1 h2 (by rw [← hY]; exact hlen)
  rw [← hY] at HCC
  have HCC := Lib.hid HCC
  clear hY hws wd0 wd1 htab hT hC0 hC1 hT0 hT1
  obtain ⟨O, hO⟩ : ∃ O, O = Obj.cells #[.int .i64 10, .string s, .int .i64 n, .int .i64 a, .slice (some ⟨g, o, none⟩) 2 c] 24 := ⟨_, rfl⟩
  have hba : Below W0.heap.size W (W.alloc O) := (Below.refl _ W).alloc (by omega) _
  have hBa := wb_alloc hW O
  have hIa := hI.trans hba
  have hka : Lib.OthersKept 5 (some b) W (W.alloc O) := (Lib.OthersKept.refl _ _ W).alloc O
  have hsa := hba.size
  have hL : Lies (W.alloc O) W.heap.size 24 #[.int .i64 10, .string s, .int .i64 n, .int .i64 a, .slice (some ⟨g, o, none⟩) 2 c] := by
    subst hO
    exact Lies.new _ _ _
  have hsz : (W.alloc O).heap.size = W.heap.size + 1 := by simp
  have hbW := wb_lt hW
  have hS : ∀ V, Below (W.heap.size + 1) (W.alloc O) V → V.cell? ⟨W.heap.size, 1, none⟩ = some (.string s) ∧ V.cell? ⟨W.heap.size, 4, none⟩ = some (.slice (some ⟨g, o, none⟩) 2 c) ∧ V.cell? ⟨g, o, none⟩ = some (.int .i64 p0.kind) ∧ V.cell? ⟨g, o + 1, none⟩ = some (.string p0.name) ∧ V.cell? ⟨g, o + 2, none⟩ = some (.int .i64 p0.n) ∧ V.cell? ⟨g, o + 3, none⟩ = some (.int .i64 p0.place) ∧ V.cell? ⟨g, o + 4, none⟩ = some (.slice A0 p0.parts.length (capF p0.parts.length c0)) ∧ V.cell? ⟨g, o + 5, none⟩ = some (.int .i64 p1.kind) ∧ V.cell? ⟨g, o + 5 + 1, none⟩ = some (.string p1.name) ∧ V.cell? ⟨g, o + 5 + 2, none⟩ = some (.int .i64 p1.n) ∧ V.cell? ⟨g, o + 5 + 3, none⟩ = some (.int .i64 p1.place) ∧ V.cell? ⟨g, o + 5 + 4, none⟩ = some (.slice A1 p1.parts.length (capF p1.parts.length c1)) := by
    intro V hb
    have h := hL.below hb (by omega)
    have hb2 := hIa.trans (hb.mono (by omega))
    have hc : ∀ j, V.cell? ⟨g, j, none⟩ = W0.cell? ⟨g, j, none⟩ := fun j => hb2.cell (p := ⟨g, j, none⟩) hg
    exact ⟨h.cell 1, h.cell 4, (hc _).trans hp.1, (hc _).trans hp.2.1, (hc _).trans hp.2.2.1, (hc _).trans hp.2.2.2.1, (hc _).trans hp.2.2.2.2, (hc _).trans hq.1, (hc _).trans hq.2.1, (hc _).trans hq.2.2.1, (hc _).trans hq.2.2.2.1, (hc _).trans hq.2.2.2.2⟩
  have HS := Lib.hid hS
  have hS2 : ∀ V V', Below (W.heap.size + 1) (W.alloc O) V → Below W0.heap.size V V' → Lib.OthersKept 5 (some b) V V' → V'.cell? ⟨W.heap.size, 1, none⟩ = some (.string s) ∧ V'.cell? ⟨W.heap.size, 4, none⟩ = some (.slice (some ⟨g, o, none⟩) 2 c) ∧ V'.cell? ⟨g, o, none⟩ = some (.int .i64 p0.kind) ∧ V'.cell? ⟨g, o + 1, none⟩ = some (.string p0.name) ∧ V'.cell? ⟨g, o + 2, none⟩ = some (.int .i64 p0.n) ∧ V'.cell? ⟨g, o + 3, none⟩ = some (.int .i64 p0.place) ∧ V'.cell? ⟨g, o + 4, none⟩ = some (.slice A0 p0.parts.length (capF p0.parts.length c0)) ∧ V'.cell? ⟨g, o + 5, none⟩ = some (.int .i64 p1.kind) ∧ V'.cell? ⟨g, o + 5 + 1, none⟩ = some (.string p1.name) ∧ V'.cell? ⟨g, o + 5 + 2, none⟩ = some (.int .i64 p1.n) ∧ V'.cell? ⟨g, o + 5 + 3, none⟩ = some (.int .i64 p1.place) ∧ V'.cell? ⟨g, o + 5 + 4, none⟩ = some (.slice A1 p1.parts.length (capF p1.parts.length c1)) := by
    intro V V' hb hb2 hk
    have h := (hL.below hb (by omega)).others hk (by omega) (by decide)
    have hb3 := (hIa.trans (hb.mono (by omega))).trans hb2
    have hc : ∀ j, V'.cell? ⟨g, j, none⟩ = W0.cell? ⟨g, j, none⟩ := fun j => hb3.cell (p := ⟨g, j, none⟩) hg
    exact ⟨h.cell 1, h.cell 4, (hc _).trans hp.1, (hc _).trans hp.2.1, (hc _).trans hp.2.2.1, (hc _).trans hp.2.2.2.1, (hc _).trans hp.2.2.2.2, (hc _).trans hq.1, (hc _).trans hq.2.1, (hc _).trans hq.2.2.1, (hc _).trans hq.2.2.2.1, (hc _).trans hq.2.2.2.2⟩
  have HS2 := Lib.hid hS2
  obtain ⟨W1, hW1⟩ : ∃ W1, W1 = W.alloc O := ⟨_, rfl⟩
  have hW1' := hW1
  have HLV : ∀ w, Calls Tryz.prog 98 #[.agg #[.int .i64 10, .string s, .int .i64 n, .int .i64 a, .slice (some ⟨g, o, none⟩) 2 c]] w fun e w' => e = .returned (.int .i64 2) ∧ Below w.heap.size w w' := fun w => by
    have h := levelT_any 10 n a s (some ⟨g, o, none⟩) 2 c w
    have e : levelN 10 s.data.toList 2 = 2 := by simpa [levelN] using hlv
    rw [e] at h
    exact h
  have HLV := Lib.hid HLV
  clear hp hq hg hlv
  go_enter Tryz.func57, Tryz.ntmps57
  go_wp2_with fail
  rw [← hO]
  rw [← hW1] at hba hBa hIa hka hsa hsz HS HS2 ⊢
  clear hS hS2 hW1
  obtain ⟨hL0, hL1, hL2, hL3, hL4⟩ : W1.cell? ⟨W.heap.size, 0, none⟩ = some (.int .i64 10) ∧ W1.cell? ⟨W.heap.size, 1, none⟩ = some (.string s) ∧ W1.cell? ⟨W.heap.size, 2, none⟩ = some (.int .i64 n) ∧ W1.cell? ⟨W.heap.size, 3, none⟩ = some (.int .i64 a) ∧ W1.cell? ⟨W.heap.size, 4, none⟩ = some (.slice (some ⟨g, o, none⟩) 2 c) := by
    rw [← hW1'] at hL
    exact ⟨hL.cell 0, hL.cell 1, hL.cell 2, hL.cell 3, hL.cell 4⟩
  clear hL hO
  go_wp2_with fail
  refine (HLV.out _).mono ?_
  rintro e wx ⟨rfl, hbx⟩
  have hd0 : Below (W.heap.size + 1) W1 wx := hbx.mono (by omega)
  have hs0 := hd0.size
  have hd1 : Below (W.heap.size + 1) W1 wx.drew := hd0.drew
  have HC := Lib.hid (HCC.out wx (hIa.trans (hd0.mono (by omega))) (wb_below hBa hbx))
  have hkx := hka.trans (kept_below (e := 5) (b := some b) hbx)
  have hbz := hba.trans (hd0.mono (by omega))
  clear hbx HCC HLV hba hBa hIa hka hL0 hL1 hL2 hL3 hL4
  go_wp2_with fail
  go_region_held3 (fun V => V.cell? ⟨W.heap.size, 1, none⟩ = some (.string s) ∧ V.cell? ⟨W.heap.size, 4, none⟩ = some (.slice (some ⟨g, o, none⟩) 2 c) ∧ V.cell? ⟨g, o, none⟩ = some (.int .i64 p0.kind) ∧ V.cell? ⟨g, o + 1, none⟩ = some (.string p0.name) ∧ V.cell? ⟨g, o + 2, none⟩ = some (.int .i64 p0.n) ∧ V.cell? ⟨g, o + 3, none⟩ = some (.int .i64 p0.place) ∧ V.cell? ⟨g, o + 4, none⟩ = some (.slice A0 p0.parts.length (capF p0.parts.length c0)) ∧ V.cell? ⟨g, o + 5, none⟩ = some (.int .i64 p1.kind) ∧ V.cell? ⟨g, o + 5 + 1, none⟩ = some (.string p1.name) ∧ V.cell? ⟨g, o + 5 + 2, none⟩ = some (.int .i64 p1.n) ∧ V.cell? ⟨g, o + 5 + 3, none⟩ = some (.int .i64 p1.place) ∧ V.cell? ⟨g, o + 5 + 4, none⟩ = some (.slice A1 p1.parts.length (capF p1.parts.length c1)))
    (first | exact HS.out _ hd1 | exact HS.out _ ((hd0.alloc (by omega) _).drew) | exact HS2.out _ _ hd0 hb2 hk2)
    ((first
      | (go_at_call 53
         refine HC.out.mono ?_
         rintro e w2 ⟨rfl, hB2, hb2, hk2⟩)))
  go_wp2_with fail
  go_end0
  exact ⟨rfl, hB2, hbz.trans hb2, hkx.trans hk2⟩
set_option maxHeartbeats 8000000 in
theorem wop_any3 (W0 : World) (b : Nat) (n a : Int) (s : ByteArray) (p0 p1 : Tr) (A : Option Addr) (c : Nat) (hlv : levelS s.data.toList = 3) (htab : Lib.TabIs Tryz.prog W0 "internal/strconv.uint64pow10" .u64 Lib.pow10Tab)
    (hT : TIn W0 Any (.node 10 s n a [p0, p1]) A) (hC0 : ∀ A' c', TIn W0 Any p0 A' → TreeC W0 b p0 A' c') (hC1 : ∀ A' c', TIn W0 Any p1 A' → TreeC W0 b p1 A' c')
    (l : List UInt8) (W : World) (hI : Below W0.heap.size W0 W) (hW : WB W0.heap.size b l W) (hBw : W0.heap.size ≤ W.heap.size)
    (hlen : l.length + (joinS [parS 3 (levelT p0, showT p0), s.data.toList, parS 4 (levelT p1, showT p1)]).length ≤ 1000000) :
    Calls Tryz.prog 57 #[.pointer (some ⟨b, 0, none⟩), .agg #[.int .i64 10, .string s, .int .i64 n, .int .i64 a, .slice A 2 c]] W
      fun e w' => WPo W0.heap.size b l (joinS [parS 3 (levelT p0, showT p0), s.data.toList, parS 4 (levelT p1, showT p1)]) W e w' := by
  obtain ⟨g, o, A0, c0, A1, c1, rfl, hp, hq, hT0, hT1⟩ := LIn.pair (tin_lin hT)
  have hg : g < W0.heap.size := cell_lt hp.1
  have wd0 := wd_part W0 b p0 A0 c0 3 (hC0 _ _ hT0)
  have wd1 := wd_part W0 b p1 A1 c1 4 (hC1 _ _ hT1)
  obtain ⟨Y, hY⟩ : ∃ Y, Y = joinS [parS 3 (levelT p0, showT p0), s.data.toList, parS 4 (levelT p1, showT p1)] := ⟨_, rfl⟩
  rw [← hY] at hlen ⊢
  have hws : WdsAre W0.heap.size b (Below W0.heap.size W0) [.iface 90 (.agg #[.int .i64 p0.kind, .string p0.name, .int .i64 p0.n, .int .i64 p0.place, .slice A0 p0.parts.length (capF p0.parts.length c0), .int .i64 3]), .iface 9 (.string s), .iface 90 (.agg #[.int .i64 p1.kind, .string p1.name, .int .i64 p1.n, .int .i64 p1.place, .slice A1 p1.parts.length (capF p1.parts.length c1), .int .i64 4])] [parS 3 (levelT p0, showT p0), s.data.toList, parS 4 (levelT p1, showT p1)] :=
    wds_cons wd0 (wds_cons (wd_name _ _ _ _) (wds_cons wd1 wds_nil))
  have HCC := fun (W1 : World) (h1 : Below W0.heap.size W0 W1) (h2 : WB W0.heap.size b l W1) => words_row W0 b htab _ _ 3 rfl rfl (by decide) hws l W1 W1.heap.size rfl h1 h2 (by rw [← hY]; exact hlen)
  rw [← hY] at HCC
  have HCC := Lib.hid HCC
  clear hY hws wd0 wd1 htab hT hC0 hC1 hT0 hT1
  obtain ⟨O, hO⟩ : ∃ O, O = Obj.cells #[.int .i64 10, .string s, .int .i64 n, .int .i64 a, .slice (some ⟨g, o, none⟩) 2 c] 24 := ⟨_, rfl⟩
  have hba : Below W0.heap.size W (W.alloc O) := (Below.refl _ W).alloc (by omega) _
  have hBa := wb_alloc hW O
  have hIa := hI.trans hba
  have hka : Lib.OthersKept 5 (some b) W (W.alloc O) := (Lib.OthersKept.refl _ _ W).alloc O
  have hsa := hba.size
  have hL : Lies (W.alloc O) W.heap.size 24 #[.int .i64 10, .string s, .int .i64 n, .int .i64 a, .slice (some ⟨g, o, none⟩) 2 c] := by
    subst hO
    exact Lies.new _ _ _
  have hsz : (W.alloc O).heap.size = W.heap.size + 1 := by simp
  have hbW := wb_lt hW
  have hS : ∀ V, Below (W.heap.size + 1) (W.alloc O) V → V.cell? ⟨W.heap.size, 1, none⟩ = some (.string s) ∧ V.cell? ⟨W.heap.size, 4, none⟩ = some (.slice (some ⟨g, o, none⟩) 2 c) ∧ V.cell? ⟨g, o, none⟩ = some (.int .i64 p0.kind) ∧ V.cell? ⟨g, o + 1, none⟩ = some (.string p0.name) ∧ V.cell? ⟨g, o + 2, none⟩ = some (.int .i64 p0.n) ∧ V.cell? ⟨g, o + 3, none⟩ = some (.int .i64 p0.place) ∧ V.cell? ⟨g, o + 4, none⟩ = some (.slice A0 p0.parts.length (capF p0.parts.length c0)) ∧ V.cell? ⟨g, o + 5, none⟩ = some (.int .i64 p1.kind) ∧ V.cell? ⟨g, o + 5 + 1, none⟩ = some (.string p1.name) ∧ V.cell? ⟨g, o + 5 + 2, none⟩ = some (.int .i64 p1.n) ∧ V.cell? ⟨g, o + 5 + 3, none⟩ = some (.int .i64 p1.place) ∧ V.cell? ⟨g, o + 5 + 4, none⟩ = some (.slice A1 p1.parts.length (capF p1.parts.length c1)) := by
    intro V hb
    have h := hL.below hb (by omega)
    have hb2 := hIa.trans (hb.mono (by omega))
    have hc : ∀ j, V.cell? ⟨g, j, none⟩ = W0.cell? ⟨g, j, none⟩ := fun j => hb2.cell (p := ⟨g, j, none⟩) hg
    exact ⟨h.cell 1, h.cell 4, (hc _).trans hp.1, (hc _).trans hp.2.1, (hc _).trans hp.2.2.1, (hc _).trans hp.2.2.2.1, (hc _).trans hp.2.2.2.2, (hc _).trans hq.1, (hc _).trans hq.2.1, (hc _).trans hq.2.2.1, (hc _).trans hq.2.2.2.1, (hc _).trans hq.2.2.2.2⟩
  have HS := Lib.hid hS
  have hS2 : ∀ V V', Below (W.heap.size + 1) (W.alloc O) V → Below W0.heap.size V V' → Lib.OthersKept 5 (some b) V V' → V'.cell? ⟨W.heap.size, 1, none⟩ = some (.string s) ∧ V'.cell? ⟨W.heap.size, 4, none⟩ = some (.slice (some ⟨g, o, none⟩) 2 c) ∧ V'.cell? ⟨g, o, none⟩ = some (.int .i64 p0.kind) ∧ V'.cell? ⟨g, o + 1, none⟩ = some (.string p0.name) ∧ V'.cell? ⟨g, o + 2, none⟩ = some (.int .i64 p0.n) ∧ V'.cell? ⟨g, o + 3, none⟩ = some (.int .i64 p0.place) ∧ V'.cell? ⟨g, o + 4, none⟩ = some (.slice A0 p0.parts.length (capF p0.parts.length c0)) ∧ V'.cell? ⟨g, o + 5, none⟩ = some (.int .i64 p1.kind) ∧ V'.cell? ⟨g, o + 5 + 1, none⟩ = some (.string p1.name) ∧ V'.cell? ⟨g, o + 5 + 2, none⟩ = some (.int .i64 p1.n) ∧ V'.cell? ⟨g, o + 5 + 3, none⟩ = some (.int .i64 p1.place) ∧ V'.cell? ⟨g, o + 5 + 4, none⟩ = some (.slice A1 p1.parts.length (capF p1.parts.length c1)) := by
    intro V V' hb hb2 hk
    have h := (hL.below hb (by omega)).others hk (by omega) (by decide)
    have hb3 := (hIa.trans (hb.mono (by omega))).trans hb2
    have hc : ∀ j, V'.cell? ⟨g, j, none⟩ = W0.cell? ⟨g, j, none⟩ := fun j => hb3.cell (p := ⟨g, j, none⟩) hg
    exact ⟨h.cell 1, h.cell 4, (hc _).trans hp.1, (hc _).trans hp.2.1, (hc _).trans hp.2.2.1, (hc _).trans hp.2.2.2.1, (hc _).trans hp.2.2.2.2, (hc _).trans hq.1, (hc _).trans hq.2.1, (hc _).trans hq.2.2.1, (hc _).trans hq.2.2.2.1, (hc _).trans hq.2.2.2.2⟩
  have HS2 := Lib.hid hS2
  obtain ⟨W1, hW1⟩ : ∃ W1, W1 = W.alloc O := ⟨_, rfl⟩
  have hW1' := hW1
  have HLV : ∀ w, Calls Tryz.prog 98 #[.agg #[.int .i64 10, .string s, .int .i64 n, .int .i64 a, .slice (some ⟨g, o, none⟩) 2 c]] w fun e w' => e = .returned (.int .i64 3) ∧ Below w.heap.size w w' := fun w => by
    have h := levelT_any 10 n a s (some ⟨g, o, none⟩) 2 c w
    have e : levelN 10 s.data.toList 2 = 3 := by simpa [levelN] using hlv
    rw [e] at h
    exact h
  have HLV := Lib.hid HLV
  clear hp hq hg hlv
  go_enter Tryz.func57, Tryz.ntmps57
  go_wp2_with fail
  rw [← hO]
  rw [← hW1] at hba hBa hIa hka hsa hsz HS HS2 ⊢
  clear hS hS2 hW1
  obtain ⟨hL0, hL1, hL2, hL3, hL4⟩ : W1.cell? ⟨W.heap.size, 0, none⟩ = some (.int .i64 10) ∧ W1.cell? ⟨W.heap.size, 1, none⟩ = some (.string s) ∧ W1.cell? ⟨W.heap.size, 2, none⟩ = some (.int .i64 n) ∧ W1.cell? ⟨W.heap.size, 3, none⟩ = some (.int .i64 a) ∧ W1.cell? ⟨W.heap.size, 4, none⟩ = some (.slice (some ⟨g, o, none⟩) 2 c) := by
    rw [← hW1'] at hL
    exact ⟨hL.cell 0, hL.cell 1, hL.cell 2, hL.cell 3, hL.cell 4⟩
  clear hL hO
  go_wp2_with fail
  refine (HLV.out _).mono ?_
  rintro e wx ⟨rfl, hbx⟩
  have hd0 : Below (W.heap.size + 1) W1 wx := hbx.mono (by omega)
  have hs0 := hd0.size
  have hd1 : Below (W.heap.size + 1) W1 wx.drew := hd0.drew
  have HC := Lib.hid (HCC.out wx (hIa.trans (hd0.mono (by omega))) (wb_below hBa hbx))
  have hkx := hka.trans (kept_below (e := 5) (b := some b) hbx)
  have hbz := hba.trans (hd0.mono (by omega))
  clear hbx HCC HLV hba hBa hIa hka hL0 hL1 hL2 hL3 hL4
  go_wp2_with fail
  go_region_held3 (fun V => V.cell? ⟨W.heap.size, 1, none⟩ = some (.string s) ∧ V.cell? ⟨W.heap.size, 4, none⟩ = some (.slice (some ⟨g, o, none⟩) 2 c) ∧ V.cell? ⟨g, o, none⟩ = some (.int .i64 p0.kind) ∧ V.cell? ⟨g, o + 1, none⟩ = some (.string p0.name) ∧ V.cell? ⟨g, o + 2, none⟩ = some (.int .i64 p0.n) ∧ V.cell? ⟨g, o + 3, none⟩ = some (.int .i64 p0.place) ∧ V.cell? ⟨g, o + 4, none⟩ = some (.slice A0 p0.parts.length (capF p0.parts.length c0)) ∧ V.cell? ⟨g, o + 5, none⟩ = some (.int .i64 p1.kind) ∧ V.cell? ⟨g, o + 5 + 1, none⟩ = some (.string p1.name) ∧ V.cell? ⟨g, o + 5 + 2, none⟩ = some (.int .i64 p1.n) ∧ V.cell? ⟨g, o + 5 + 3, none⟩ = some (.int .i64 p1.place) ∧ V.cell? ⟨g, o + 5 + 4, none⟩ = some (.slice A1 p1.parts.length (capF p1.parts.length c1)))
    (first | exact HS.out _ hd1 | exact HS.out _ ((hd0.alloc (by omega) _).drew) | exact HS2.out _ _ hd0 hb2 hk2)
    ((first
      | (go_at_call 53
         refine HC.out.mono ?_
         rintro e w2 ⟨rfl, hB2, hb2, hk2⟩)))
  go_wp2_with fail
  go_end0
  exact ⟨rfl, hB2, hbz.trans hb2, hkx.trans hk2⟩
end Lx
end Go.Proofs.YteabbkhlgnoliaaGreatDoor
namespace Go.Proofs.YteabbkhlgnoliaaGreatDoor
open Go.RowKit Go.Sort
namespace Lx
set_option maxRecDepth 100000
set_option maxHeartbeats 8000000 in
theorem wapp_anyC (W0 : World) (b : Nat) (n a : Int) (s : ByteArray) (p0 p1 : Tr) (A : Option Addr) (c : Nat) (hkd : p0.kind = 6) (htab : Lib.TabIs Tryz.prog W0 "internal/strconv.uint64pow10" .u64 Lib.pow10Tab)
    (hT : TIn W0 Any (.node 3 s n a [p0, p1]) A) (hC0 : ∀ A' c', TIn W0 Any p0 A' → TreeC W0 b p0 A' c') (hC1 : ∀ A' c', TIn W0 Any p1 A' → TreeC W0 b p1 A' c')
    (l : List UInt8) (W : World) (hI : Below W0.heap.size W0 W) (hW : WB W0.heap.size b l W) (hBw : W0.heap.size ≤ W.heap.size)
    (hlen : l.length + (joinS [parS 6 (levelT p0, showT p0), parS 5 (levelT p1, showT p1)]).length ≤ 1000000) :
    Calls Tryz.prog 59 #[.pointer (some ⟨b, 0, none⟩), .agg #[.int .i64 3, .string s, .int .i64 n, .int .i64 a, .slice A 2 c]] W
      fun e w' => WPo W0.heap.size b l (joinS [parS 6 (levelT p0, showT p0), parS 5 (levelT p1, showT p1)]) W e w' := by
  obtain ⟨g, o, A0, c0, A1, c1, rfl, hp, hq, hT0, hT1⟩ := LIn.pair (tin_lin hT)
  have hg : g < W0.heap.size := cell_lt hp.1
  have wd0 := wd_part W0 b p0 A0 c0 6 (hC0 _ _ hT0)
  have wd1 := wd_part W0 b p1 A1 c1 5 (hC1 _ _ hT1)
  obtain ⟨Y, hY⟩ : ∃ Y, Y = joinS [parS 6 (levelT p0, showT p0), parS 5 (levelT p1, showT p1)] := ⟨_, rfl⟩
  rw [← hY] at hlen ⊢
  have hws : WdsAre W0.heap.size b (Below W0.heap.size W0) [.iface 90 (.agg #[.int .i64 p0.kind, .string p0.name, .int .i64 p0.n, .int .i64 p0.place, .slice A0 p0.parts.length (capF p0.parts.length c0), .int .i64 6]), .iface 90 (.agg #[.int .i64 p1.kind, .string p1.name, .int .i64 p1.n, .int .i64 p1.place, .slice A1 p1.parts.length (capF p1.parts.length c1), .int .i64 5])] [parS 6 (levelT p0, showT p0), parS 5 (levelT p1, showT p1)] :=
    wds_cons wd0 (wds_cons wd1 wds_nil)
  have HCC := fun (W1 : World) (h1 : Below W0.heap.size W0 W1) (h2 : WB W0.heap.size b l W1) => words_row W0 b htab _ _ 2 rfl rfl (by decide) hws l W1 W1.heap.size rfl h1 h2 (by rw [← hY]; exact hlen)
  rw [← hY] at HCC
  have HCC := Lib.hid HCC
  clear hY hws wd0 wd1 htab hT hC0 hC1 hT0 hT1
  obtain ⟨O, hO⟩ : ∃ O, O = Obj.cells #[.int .i64 3, .string s, .int .i64 n, .int .i64 a, .slice (some ⟨g, o, none⟩) 2 c] 24 := ⟨_, rfl⟩
  have hba : Below W0.heap.size W (W.alloc O) := (Below.refl _ W).alloc (by omega) _
  have hBa := wb_alloc hW O
  have hIa := hI.trans hba
  have hka : Lib.OthersKept 5 (some b) W (W.alloc O) := (Lib.OthersKept.refl _ _ W).alloc O
  have hsa := hba.size
  have hL : Lies (W.alloc O) W.heap.size 24 #[.int .i64 3, .string s, .int .i64 n, .int .i64 a, .slice (some ⟨g, o, none⟩) 2 c] := by
    subst hO
    exact Lies.new _ _ _
  have hsz : (W.alloc O).heap.size = W.heap.size + 1 := by simp
  have hbW := wb_lt hW
  have hS : ∀ V, Below (W.heap.size + 1) (W.alloc O) V → V.cell? ⟨W.heap.size, 1, none⟩ = some (.string s) ∧ V.cell? ⟨W.heap.size, 4, none⟩ = some (.slice (some ⟨g, o, none⟩) 2 c) ∧ V.cell? ⟨g, o, none⟩ = some (.int .i64 p0.kind) ∧ V.cell? ⟨g, o + 1, none⟩ = some (.string p0.name) ∧ V.cell? ⟨g, o + 2, none⟩ = some (.int .i64 p0.n) ∧ V.cell? ⟨g, o + 3, none⟩ = some (.int .i64 p0.place) ∧ V.cell? ⟨g, o + 4, none⟩ = some (.slice A0 p0.parts.length (capF p0.parts.length c0)) ∧ V.cell? ⟨g, o + 5, none⟩ = some (.int .i64 p1.kind) ∧ V.cell? ⟨g, o + 5 + 1, none⟩ = some (.string p1.name) ∧ V.cell? ⟨g, o + 5 + 2, none⟩ = some (.int .i64 p1.n) ∧ V.cell? ⟨g, o + 5 + 3, none⟩ = some (.int .i64 p1.place) ∧ V.cell? ⟨g, o + 5 + 4, none⟩ = some (.slice A1 p1.parts.length (capF p1.parts.length c1)) := by
    intro V hb
    have h := hL.below hb (by omega)
    have hb2 := hIa.trans (hb.mono (by omega))
    have hc : ∀ j, V.cell? ⟨g, j, none⟩ = W0.cell? ⟨g, j, none⟩ := fun j => hb2.cell (p := ⟨g, j, none⟩) hg
    exact ⟨h.cell 1, h.cell 4, (hc _).trans hp.1, (hc _).trans hp.2.1, (hc _).trans hp.2.2.1, (hc _).trans hp.2.2.2.1, (hc _).trans hp.2.2.2.2, (hc _).trans hq.1, (hc _).trans hq.2.1, (hc _).trans hq.2.2.1, (hc _).trans hq.2.2.2.1, (hc _).trans hq.2.2.2.2⟩
  have HS := Lib.hid hS
  have hS2 : ∀ V V', Below (W.heap.size + 1) (W.alloc O) V → Below W0.heap.size V V' → Lib.OthersKept 5 (some b) V V' → V'.cell? ⟨W.heap.size, 1, none⟩ = some (.string s) ∧ V'.cell? ⟨W.heap.size, 4, none⟩ = some (.slice (some ⟨g, o, none⟩) 2 c) ∧ V'.cell? ⟨g, o, none⟩ = some (.int .i64 p0.kind) ∧ V'.cell? ⟨g, o + 1, none⟩ = some (.string p0.name) ∧ V'.cell? ⟨g, o + 2, none⟩ = some (.int .i64 p0.n) ∧ V'.cell? ⟨g, o + 3, none⟩ = some (.int .i64 p0.place) ∧ V'.cell? ⟨g, o + 4, none⟩ = some (.slice A0 p0.parts.length (capF p0.parts.length c0)) ∧ V'.cell? ⟨g, o + 5, none⟩ = some (.int .i64 p1.kind) ∧ V'.cell? ⟨g, o + 5 + 1, none⟩ = some (.string p1.name) ∧ V'.cell? ⟨g, o + 5 + 2, none⟩ = some (.int .i64 p1.n) ∧ V'.cell? ⟨g, o + 5 + 3, none⟩ = some (.int .i64 p1.place) ∧ V'.cell? ⟨g, o + 5 + 4, none⟩ = some (.slice A1 p1.parts.length (capF p1.parts.length c1)) := by
    intro V V' hb hb2 hk
    have h := (hL.below hb (by omega)).others hk (by omega) (by decide)
    have hb3 := (hIa.trans (hb.mono (by omega))).trans hb2
    have hc : ∀ j, V'.cell? ⟨g, j, none⟩ = W0.cell? ⟨g, j, none⟩ := fun j => hb3.cell (p := ⟨g, j, none⟩) hg
    exact ⟨h.cell 1, h.cell 4, (hc _).trans hp.1, (hc _).trans hp.2.1, (hc _).trans hp.2.2.1, (hc _).trans hp.2.2.2.1, (hc _).trans hp.2.2.2.2, (hc _).trans hq.1, (hc _).trans hq.2.1, (hc _).trans hq.2.2.1, (hc _).trans hq.2.2.2.1, (hc _).trans hq.2.2.2.2⟩
  have HS2 := Lib.hid hS2
  obtain ⟨W1, hW1⟩ : ∃ W1, W1 = W.alloc O := ⟨_, rfl⟩
  have hkd' : (p0.kind == 6) = true := by simpa using hkd
  have hd0 : Below (W.heap.size + 1) W1 W1 := Below.refl _ _
  have hd1 : Below (W.heap.size + 1) W1 W1.drew := hd0.drew
  obtain ⟨kk, hkk⟩ : ∃ kk, kk = p0.kind := ⟨_, rfl⟩
  have y0 := ((hI.cell (p := ⟨g, o, none⟩) hg).trans hp.1)
  have hgW : g < W.heap.size := by omega
  rw [← hkk] at HS HS2 HCC hkd' y0
  clear hS hS2 hkk hp hq hg hkd
  go_enter Tryz.func59, Tryz.ntmps59
  go_wp2_with fail
  rw [← hO]
  rw [← hW1] at hba hBa hIa hka hsa hsz HS HS2 ⊢
  clear hW1 hO y0
  have HC := HCC.out W1 hIa hBa
  rw [hsz] at HC
  have HC := Lib.hid HC
  clear HCC hkd'
  go_region_held3 (fun V => V.cell? ⟨W.heap.size, 1, none⟩ = some (.string s) ∧ V.cell? ⟨W.heap.size, 4, none⟩ = some (.slice (some ⟨g, o, none⟩) 2 c) ∧ V.cell? ⟨g, o, none⟩ = some (.int .i64 kk) ∧ V.cell? ⟨g, o + 1, none⟩ = some (.string p0.name) ∧ V.cell? ⟨g, o + 2, none⟩ = some (.int .i64 p0.n) ∧ V.cell? ⟨g, o + 3, none⟩ = some (.int .i64 p0.place) ∧ V.cell? ⟨g, o + 4, none⟩ = some (.slice A0 p0.parts.length (capF p0.parts.length c0)) ∧ V.cell? ⟨g, o + 5, none⟩ = some (.int .i64 p1.kind) ∧ V.cell? ⟨g, o + 5 + 1, none⟩ = some (.string p1.name) ∧ V.cell? ⟨g, o + 5 + 2, none⟩ = some (.int .i64 p1.n) ∧ V.cell? ⟨g, o + 5 + 3, none⟩ = some (.int .i64 p1.place) ∧ V.cell? ⟨g, o + 5 + 4, none⟩ = some (.slice A1 p1.parts.length (capF p1.parts.length c1)))
    (first | exact HS.out _ hd1 | exact HS.out _ ((hd0.alloc (by omega) _).drew) | exact HS2.out _ _ hd0 hb2 hk2)
    ((first
      | (go_at_call 53
         refine HC.out.mono ?_
         rintro e w2 ⟨rfl, hB2, hb2, hk2⟩)))
  go_wp2_with fail
  go_end0
  exact ⟨rfl, hB2, hba.trans hb2, hka.trans hk2⟩
set_option maxHeartbeats 8000000 in
theorem wapp_anyN (W0 : World) (b : Nat) (n a : Int) (s : ByteArray) (p0 p1 : Tr) (A : Option Addr) (c : Nat) (hkd : ¬ p0.kind = 6) (htab : Lib.TabIs Tryz.prog W0 "internal/strconv.uint64pow10" .u64 Lib.pow10Tab)
    (hT : TIn W0 Any (.node 3 s n a [p0, p1]) A) (hC0 : ∀ A' c', TIn W0 Any p0 A' → TreeC W0 b p0 A' c') (hC1 : ∀ A' c', TIn W0 Any p1 A' → TreeC W0 b p1 A' c')
    (l : List UInt8) (W : World) (hI : Below W0.heap.size W0 W) (hW : WB W0.heap.size b l W) (hBw : W0.heap.size ≤ W.heap.size)
    (hlen : l.length + (joinS [parS 4 (levelT p0, showT p0), parS 5 (levelT p1, showT p1)]).length ≤ 1000000) :
    Calls Tryz.prog 59 #[.pointer (some ⟨b, 0, none⟩), .agg #[.int .i64 3, .string s, .int .i64 n, .int .i64 a, .slice A 2 c]] W
      fun e w' => WPo W0.heap.size b l (joinS [parS 4 (levelT p0, showT p0), parS 5 (levelT p1, showT p1)]) W e w' := by
  obtain ⟨g, o, A0, c0, A1, c1, rfl, hp, hq, hT0, hT1⟩ := LIn.pair (tin_lin hT)
  have hg : g < W0.heap.size := cell_lt hp.1
  have wd0 := wd_part W0 b p0 A0 c0 4 (hC0 _ _ hT0)
  have wd1 := wd_part W0 b p1 A1 c1 5 (hC1 _ _ hT1)
  obtain ⟨Y, hY⟩ : ∃ Y, Y = joinS [parS 4 (levelT p0, showT p0), parS 5 (levelT p1, showT p1)] := ⟨_, rfl⟩
  rw [← hY] at hlen ⊢
  have hws : WdsAre W0.heap.size b (Below W0.heap.size W0) [.iface 90 (.agg #[.int .i64 p0.kind, .string p0.name, .int .i64 p0.n, .int .i64 p0.place, .slice A0 p0.parts.length (capF p0.parts.length c0), .int .i64 4]), .iface 90 (.agg #[.int .i64 p1.kind, .string p1.name, .int .i64 p1.n, .int .i64 p1.place, .slice A1 p1.parts.length (capF p1.parts.length c1), .int .i64 5])] [parS 4 (levelT p0, showT p0), parS 5 (levelT p1, showT p1)] :=
    wds_cons wd0 (wds_cons wd1 wds_nil)
  have HCC := fun (W1 : World) (h1 : Below W0.heap.size W0 W1) (h2 : WB W0.heap.size b l W1) => words_row W0 b htab _ _ 2 rfl rfl (by decide) hws l W1 W1.heap.size rfl h1 h2 (by rw [← hY]; exact hlen)
  rw [← hY] at HCC
  have HCC := Lib.hid HCC
  clear hY hws wd0 wd1 htab hT hC0 hC1 hT0 hT1
  obtain ⟨O, hO⟩ : ∃ O, O = Obj.cells #[.int .i64 3, .string s, .int .i64 n, .int .i64 a, .slice (some ⟨g, o, none⟩) 2 c] 24 := ⟨_, rfl⟩
  have hba : Below W0.heap.size W (W.alloc O) := (Below.refl _ W).alloc (by omega) _
  have hBa := wb_alloc hW O
  have hIa := hI.trans hba
  have hka : Lib.OthersKept 5 (some b) W (W.alloc O) := (Lib.OthersKept.refl _ _ W).alloc O
  have hsa := hba.size
  have hL : Lies (W.alloc O) W.heap.size 24 #[.int .i64 3, .string s, .int .i64 n, .int .i64 a, .slice (some ⟨g, o, none⟩) 2 c] := by
    subst hO
    exact Lies.new _ _ _
  have hsz : (W.alloc O).heap.size = W.heap.size + 1 := by simp
  have hbW := wb_lt hW
  have hS : ∀ V, Below (W.heap.size + 1) (W.alloc O) V → V.cell? ⟨W.heap.size, 1, none⟩ = some (.string s) ∧ V.cell? ⟨W.heap.size, 4, none⟩ = some (.slice (some ⟨g, o, none⟩) 2 c) ∧ V.cell? ⟨g, o, none⟩ = some (.int .i64 p0.kind) ∧ V.cell? ⟨g, o + 1, none⟩ = some (.string p0.name) ∧ V.cell? ⟨g, o + 2, none⟩ = some (.int .i64 p0.n) ∧ V.cell? ⟨g, o + 3, none⟩ = some (.int .i64 p0.place) ∧ V.cell? ⟨g, o + 4, none⟩ = some (.slice A0 p0.parts.length (capF p0.parts.length c0)) ∧ V.cell? ⟨g, o + 5, none⟩ = some (.int .i64 p1.kind) ∧ V.cell? ⟨g, o + 5 + 1, none⟩ = some (.string p1.name) ∧ V.cell? ⟨g, o + 5 + 2, none⟩ = some (.int .i64 p1.n) ∧ V.cell? ⟨g, o + 5 + 3, none⟩ = some (.int .i64 p1.place) ∧ V.cell? ⟨g, o + 5 + 4, none⟩ = some (.slice A1 p1.parts.length (capF p1.parts.length c1)) := by
    intro V hb
    have h := hL.below hb (by omega)
    have hb2 := hIa.trans (hb.mono (by omega))
    have hc : ∀ j, V.cell? ⟨g, j, none⟩ = W0.cell? ⟨g, j, none⟩ := fun j => hb2.cell (p := ⟨g, j, none⟩) hg
    exact ⟨h.cell 1, h.cell 4, (hc _).trans hp.1, (hc _).trans hp.2.1, (hc _).trans hp.2.2.1, (hc _).trans hp.2.2.2.1, (hc _).trans hp.2.2.2.2, (hc _).trans hq.1, (hc _).trans hq.2.1, (hc _).trans hq.2.2.1, (hc _).trans hq.2.2.2.1, (hc _).trans hq.2.2.2.2⟩
  have HS := Lib.hid hS
  have hS2 : ∀ V V', Below (W.heap.size + 1) (W.alloc O) V → Below W0.heap.size V V' → Lib.OthersKept 5 (some b) V V' → V'.cell? ⟨W.heap.size, 1, none⟩ = some (.string s) ∧ V'.cell? ⟨W.heap.size, 4, none⟩ = some (.slice (some ⟨g, o, none⟩) 2 c) ∧ V'.cell? ⟨g, o, none⟩ = some (.int .i64 p0.kind) ∧ V'.cell? ⟨g, o + 1, none⟩ = some (.string p0.name) ∧ V'.cell? ⟨g, o + 2, none⟩ = some (.int .i64 p0.n) ∧ V'.cell? ⟨g, o + 3, none⟩ = some (.int .i64 p0.place) ∧ V'.cell? ⟨g, o + 4, none⟩ = some (.slice A0 p0.parts.length (capF p0.parts.length c0)) ∧ V'.cell? ⟨g, o + 5, none⟩ = some (.int .i64 p1.kind) ∧ V'.cell? ⟨g, o + 5 + 1, none⟩ = some (.string p1.name) ∧ V'.cell? ⟨g, o + 5 + 2, none⟩ = some (.int .i64 p1.n) ∧ V'.cell? ⟨g, o + 5 + 3, none⟩ = some (.int .i64 p1.place) ∧ V'.cell? ⟨g, o + 5 + 4, none⟩ = some (.slice A1 p1.parts.length (capF p1.parts.length c1)) := by
    intro V V' hb hb2 hk
    have h := (hL.below hb (by omega)).others hk (by omega) (by decide)
    have hb3 := (hIa.trans (hb.mono (by omega))).trans hb2
    have hc : ∀ j, V'.cell? ⟨g, j, none⟩ = W0.cell? ⟨g, j, none⟩ := fun j => hb3.cell (p := ⟨g, j, none⟩) hg
    exact ⟨h.cell 1, h.cell 4, (hc _).trans hp.1, (hc _).trans hp.2.1, (hc _).trans hp.2.2.1, (hc _).trans hp.2.2.2.1, (hc _).trans hp.2.2.2.2, (hc _).trans hq.1, (hc _).trans hq.2.1, (hc _).trans hq.2.2.1, (hc _).trans hq.2.2.2.1, (hc _).trans hq.2.2.2.2⟩
  have HS2 := Lib.hid hS2
  obtain ⟨W1, hW1⟩ : ∃ W1, W1 = W.alloc O := ⟨_, rfl⟩
  have hkd' : (p0.kind == 6) = false := by simpa using hkd
  have hd0 : Below (W.heap.size + 1) W1 W1 := Below.refl _ _
  have hd1 : Below (W.heap.size + 1) W1 W1.drew := hd0.drew
  obtain ⟨kk, hkk⟩ : ∃ kk, kk = p0.kind := ⟨_, rfl⟩
  have y0 := ((hI.cell (p := ⟨g, o, none⟩) hg).trans hp.1)
  have hgW : g < W.heap.size := by omega
  rw [← hkk] at HS HS2 HCC hkd' y0
  clear hS hS2 hkk hp hq hg hkd
  go_enter Tryz.func59, Tryz.ntmps59
  go_wp2_with fail
  rw [← hO]
  rw [← hW1] at hba hBa hIa hka hsa hsz HS HS2 ⊢
  clear hW1 hO y0
  have HC := HCC.out W1 hIa hBa
  rw [hsz] at HC
  have HC := Lib.hid HC
  clear HCC hkd'
  go_region_held3 (fun V => V.cell? ⟨W.heap.size, 1, none⟩ = some (.string s) ∧ V.cell? ⟨W.heap.size, 4, none⟩ = some (.slice (some ⟨g, o, none⟩) 2 c) ∧ V.cell? ⟨g, o, none⟩ = some (.int .i64 kk) ∧ V.cell? ⟨g, o + 1, none⟩ = some (.string p0.name) ∧ V.cell? ⟨g, o + 2, none⟩ = some (.int .i64 p0.n) ∧ V.cell? ⟨g, o + 3, none⟩ = some (.int .i64 p0.place) ∧ V.cell? ⟨g, o + 4, none⟩ = some (.slice A0 p0.parts.length (capF p0.parts.length c0)) ∧ V.cell? ⟨g, o + 5, none⟩ = some (.int .i64 p1.kind) ∧ V.cell? ⟨g, o + 5 + 1, none⟩ = some (.string p1.name) ∧ V.cell? ⟨g, o + 5 + 2, none⟩ = some (.int .i64 p1.n) ∧ V.cell? ⟨g, o + 5 + 3, none⟩ = some (.int .i64 p1.place) ∧ V.cell? ⟨g, o + 5 + 4, none⟩ = some (.slice A1 p1.parts.length (capF p1.parts.length c1)))
    (first | exact HS.out _ hd1 | exact HS.out _ ((hd0.alloc (by omega) _).drew) | exact HS2.out _ _ hd0 hb2 hk2)
    ((first
      | (go_at_call 53
         refine HC.out.mono ?_
         rintro e w2 ⟨rfl, hB2, hb2, hk2⟩)))
  go_wp2_with fail
  go_end0
  exact ⟨rfl, hB2, hba.trans hb2, hka.trans hk2⟩
end Lx
end Go.Proofs.YteabbkhlgnoliaaGreatDoor
namespace Go.Proofs.YteabbkhlgnoliaaGreatDoor
open Go.RowKit Go.Sort
namespace Lx
set_option maxRecDepth 100000
/-- A part as a word. -/
def PartV (W0 : World) (lv : Int) (t : Tr) (v : Value) : Prop := ∃ A' c', TIn W0 Any t A' ∧ v = .iface 90 (.agg #[.int .i64 t.kind, .string t.name, .int .i64 t.n, .int .i64 t.place, .slice A' t.parts.length (capF t.parts.length c'), .int .i64 lv])
def PartVs (W0 : World) (lv : Int) : List Tr → List Value → Prop
  | [], [] => True
  | t :: r, v :: q => PartV W0 lv t v ∧ PartVs W0 lv r q
  | _, _ => False
theorem partVs_len {W0 : World} {lv : Int} : ∀ {l : List Tr} {vs : List Value}, PartVs W0 lv l vs → vs.length = l.length
  | [], [], _ => rfl
  | [], _ :: _, h => h.elim
  | _ :: _, [], h => h.elim
  | _ :: _, _ :: _, h => by simp [partVs_len h.2]
theorem partVs_snoc {W0 : World} {lv : Int} {t : Tr} {v : Value} (h : PartV W0 lv t v) : ∀ {l : List Tr} {vs : List Value}, PartVs W0 lv l vs → PartVs W0 lv (l ++ [t]) (vs ++ [v])
  | [], [], _ => ⟨h, trivial⟩
  | [], _ :: _, h => h.elim
  | _ :: _, [], h => h.elim
  | _ :: _, _ :: _, h2 => ⟨h2.1, partVs_snoc h h2.2⟩
theorem partVs_wds {W0 : World} {b : Nat} {lv : Int} : ∀ {l : List Tr} {vs : List Value}, PartVs W0 lv l vs → (∀ t ∈ l, ∀ A' c', TIn W0 Any t A' → TreeC W0 b t A' c') → WdsAre W0.heap.size b (Below W0.heap.size W0) vs (l.map fun t => parS lv (levelT t, showT t))
  | [], [], _, _ => wds_nil
  | [], _ :: _, h, _ => h.elim
  | _ :: _, [], h, _ => h.elim
  | t :: r, v :: q, h, hC => by
    obtain ⟨⟨A', c', hT, rfl⟩, h2⟩ := h
    exact wds_cons (wd_part W0 b t A' c' lv (hC t (by simp) A' c' hT)) (partVs_wds h2 fun u hu => hC u (by simp [hu]))
theorem infoA : (Tryz.prog.info? 20).map (fun i => (i.zero, i.size, i.bytes)) = some (some .nilIface, 1, 16) := by kernel_rfl
theorem owns_new (w : World) (e : TypeId) (base n : Nat) (cs : List Value) (hb : base ≤ w.heap.size) (hn : n = cs.length) (hm : n ≤ maxLen) : (w.alloc (.cells cs.toArray e)).ownsRow base e 1 (.slice (some ⟨w.heap.size, 0, none⟩) n n) n cs := by
  subst hn
  exact ⟨by simp, .inr ⟨w.heap.size, cs.length, cs.toArray, rfl, hb, Lies.new w e cs.toArray, Nat.le_refl _, hm, by simp, by simp⟩⟩
def AtomsP (W0 W : World) (s : ByteArray) (l : List Tr) (e : Ending) (w' : World) : Prop :=
  ∃ v vs, e = .returned v ∧ PartVs W0 5 l vs ∧ w'.ownsRow W.heap.size 20 1 v (l.length + 1) (.iface 9 (.string s) :: vs) ∧ Below W.heap.size W w'
set_option maxHeartbeats 4000000 in
theorem atoms_any (W0 : World) (s : ByteArray) (l : List Tr) (A : Option Addr) (m c : Nat) (hm : m = l.length) (hm2 : l.length ≤ 100) (hT : LIn W0 Any l A 0) (W : World) (hI : Below W0.heap.size W0 W) :
    Calls Tryz.prog 58 #[.string s, .slice A m c] W (AtomsP W0 W s l) := by
  have hs0 := hI.size
  have hm3 : m ≤ l.length := by omega
  have hm4 : l.length ≤ m := by omega
  have hA : ∀ i, i < m → ∃ g o, A = some ⟨g, o, none⟩ ∧ g < W0.heap.size := fun i hi => by
    obtain ⟨g, o, A', c', ⟨e, _⟩, h0, _⟩ := LIn.at_ l hT i (by omega)
    exact ⟨g, o, e, cell_lt h0⟩
  have hp0 := owns_new W 20 W.heap.size 1 [.iface 9 (.string s)] (Nat.le_refl _) rfl (by decide)
  have HT := Lib.hid hT
  have HA := Lib.hid hA
  clear hT hA hm
  go_enter Tryz.func58, Tryz.ntmps58
  go_wp2_with fail
  go_loopw [5, 13] (fun x y wr => ∃ (i : Nat) (vs : List Value), i ≤ m ∧ y = .int .i64 i ∧ PartVs W0 5 (l.take i) vs ∧ wr.ownsRow W.heap.size 20 1 x (i + 1) (.iface 9 (.string s) :: vs) ∧ Below W.heap.size W wr) (fun _ y _ => m - (intOf y).toNat)
  case atStart => exact ⟨0, [], by omega, rfl, trivial, hp0, (Below.refl _ _).alloc (Nat.le_refl _) _⟩
  case round =>
    obtain ⟨i, vs, hi, rfl, hvs, hown, hb⟩ := hrel
    have hbs := hb.size
    by_cases hlt : i < m
    · obtain ⟨g, o, rfl, hg⟩ := HA.out i hlt
      obtain ⟨g', o', A', c', ⟨e, _⟩, h0, h1, h2, h3, h4, ht⟩ := LIn.at_ l HT.out i (by omega)
      simp only [Option.some.injEq, Addr.mk.injEq, and_true] at e
      obtain ⟨rfl, rfl⟩ := e
      rw [Nat.zero_add] at h0 h1 h2 h3 h4
      have hbw : Below W0.heap.size W0 wr := hI.trans (hb.mono hs0)
      have hc : ∀ j, wr.cell? ⟨g, j, none⟩ = W0.cell? ⟨g, j, none⟩ := fun j => hbw.cell (p := ⟨g, j, none⟩) hg
      rw [← hc] at h0 h1 h2 h3 h4
      obtain ⟨v, hv⟩ : ∃ v : Value, v = .iface 90 (.agg #[.int .i64 (l[i]'(by omega)).kind, .string (l[i]'(by omega)).name, .int .i64 (l[i]'(by omega)).n, .int .i64 (l[i]'(by omega)).place, .slice A' (l[i]'(by omega)).parts.length (capF (l[i]'(by omega)).parts.length c'), .int .i64 5]) := ⟨_, rfl⟩
      have hpv : PartV W0 5 (l[i]'(by omega)) v := ⟨A', c', ht, hv⟩
      have hsn := partVs_snoc hpv hvs
      have htk : l.take (i + 1) = l.take i ++ [l[i]'(by omega)] := List.take_succ_eq_append_getElem (by omega)
      rw [← htk] at hsn
      have HSN := Lib.hid hsn
      obtain ⟨kk, hk⟩ : ∃ kk, kk = (l[i]'(by omega)).kind := ⟨_, rfl⟩
      obtain ⟨ss, hs⟩ : ∃ ss, ss = (l[i]'(by omega)).name := ⟨_, rfl⟩
      obtain ⟨nn, hn⟩ : ∃ nn, nn = (l[i]'(by omega)).n := ⟨_, rfl⟩
      obtain ⟨aa, ha⟩ : ∃ aa, aa = (l[i]'(by omega)).place := ⟨_, rfl⟩
      obtain ⟨mm, hmm⟩ : ∃ mm, mm = (l[i]'(by omega)).parts.length := ⟨_, rfl⟩
      rw [← hk, ← hs, ← hn, ← ha, ← hmm] at hv
      rw [← hk] at h0
      rw [← hs] at h1
      rw [← hn] at h2
      rw [← ha] at h3
      rw [← hmm] at h4
      have hgw : g < wr.heap.size := by omega
      have hvl := partVs_len hvs
      obtain ⟨i0, hi0, hz0, hz1, hz2⟩ := info_parts infoA
      have HV := Lib.hid hv
      clear hsn hpv htk hk hs hn ha hmm ht hvs hc hp0 hv hvl hbw
      go_wp2_with (at_builtin; refine wpList_append_own _ rfl _ _ 92 rfl W.heap.size 20 i0 .nilIface 1 16 Tryz.underlying92 hi0 hz0 hz1 hz2 rfl (by decide) _ _ _ rfl ((hown.alloc _).alloc _) ⟨wr.heap.size + 1, 0, none⟩ 1 1 [.iface 90 (.agg #[.int .i64 kk, .string ss, .int .i64 nn, .int .i64 aa, .slice A' mm (capF mm c'), .int .i64 5])] rfl rfl ?c1 ?c2 ?c3 ?c4 ?c5 ?_)
      case c1 => exact new_cells _ 20 [.iface 90 (.agg #[.int .i64 kk, .string ss, .int .i64 nn, .int .i64 aa, .slice A' mm (capF mm c'), .int .i64 5])] _ (by simp)
      case c2 => intro u hu; simp at hu; subst hu; rfl
      case c3 => simp only [maxLen]; omega
      case c4 => omega
      case c5 => simp; omega
      intro v' w3 hown3 hg3 _
      have hB3 : Below W.heap.size W w3 := ((hb.alloc (by omega) _).alloc (by simp; omega) _).grown hg3 (by simp; omega) (fun q hq => (hown.lt q hq).1)
      clear hi0 hz0 hz1 hz2 hg3 hown
      go_wp2_with fail
      go_roundw
      case rel =>
        refine ⟨i + 1, vs ++ [v], by omega, by go_num, HSN.out, ?_, hB3⟩
        rw [HV.out]
        simpa using hown3
      case measure => simp [intOf]; omega
    · obtain rfl : i = m := by omega
      rw [List.take_of_length_le (by omega)] at hvs
      have hml : i + 1 = l.length + 1 := by omega
      have HML := Lib.hid hml
      clear hml
      go_wp2_with fail
      go_ret
      refine ⟨_, vs, rfl, hvs, ?_, hb⟩
      rw [← HML.out]
      exact hown
end Lx
end Go.Proofs.YteabbkhlgnoliaaGreatDoor
namespace Go.Proofs.YteabbkhlgnoliaaGreatDoor
open Go.RowKit Go.Sort
namespace Lx
set_option maxRecDepth 100000
theorem LIn.take : ∀ (l : List Tr) {w : World} {X : Nat → Prop} {A : Option Addr} {j : Nat} (N : Nat), LIn w X l A j → LIn w X (l.take N) A j
  | [], w, X, A, j, N, h => by simpa using h
  | t :: r, w, X, A, j, 0, h => by rw [List.take_zero, LIn]; trivial
  | t :: r, w, X, A, j, N + 1, h => by
    rw [LIn] at h
    rw [List.take_succ_cons, LIn]
    exact ⟨h.1, LIn.take r N h.2⟩
/-- A row of the call's own that holds something. -/
theorem any_own {w : World} {base : Nat} {v : Value} {n : Nat} {xs : List Value} (h : w.ownsRow base 20 1 v n xs) (hn : 0 < n) : ∃ G c, v = .slice (some ⟨G, 0, none⟩) n c ∧ AnyRow w G xs ∧ base ≤ G := by
  rcases h.2 with ⟨_, h0⟩ | ⟨g, cap, cur, rfl, hb, hg, h1, h2, h3, h4⟩
  · omega
  · refine ⟨g, cap, rfl, ⟨cur, (0, 0), hg, fun i u hu => ?_⟩, hb⟩
    rw [← h4, List.getElem?_take] at hu
    split at hu
    · simpa using hu
    · cases hu
/-- The call of words with a row of the call's own. -/
theorem words_own (W0 : World) (b : Nat) (htab : Lib.TabIs Tryz.prog W0 "internal/strconv.uint64pow10" .u64 Lib.pow10Tab) (vs : List Value) (xs : List (List UInt8)) (vn base : Nat) (v : Value) (hn : vn = vs.length) (hn2 : vs.length = xs.length) (hns : vn ≤ 1000) (h0 : 0 < vn)
    (hws : WdsAre W0.heap.size b (Below W0.heap.size W0) vs xs) (l : List UInt8) (W1 : World) (hown : W1.ownsRow base 20 1 v vn vs) (hb : b < base) (hI : Below W0.heap.size W0 W1) (hB : WB W0.heap.size b l W1) (hlen : l.length + (joinS xs).length ≤ 1000000) :
    Calls Tryz.prog 53 #[.pointer (some ⟨b, 0, none⟩), v] W1 fun e w' => WPo W0.heap.size b l (joinS xs) W1 e w' := by
  obtain ⟨G, c, rfl, hR, hG⟩ := any_own hown h0
  exact words_any W0.heap.size b G (Below W0.heap.size W0) vs xs vn c l W1 hn hn2 hns hI (fun _ _ h1 h2 => h1.trans h2) hB hI.size hR (by omega) hlen (tabs_iv htab) hws
set_option maxHeartbeats 8000000 in
theorem walt_any (W0 : World) (b : Nat) (a : Int) (s : ByteArray) (ls : List Tr) (A : Option Addr) (m c N : Nat) (htab : Lib.TabIs Tryz.prog W0 "internal/strconv.uint64pow10" .u64 Lib.pow10Tab) (bd : Tr) (hbd : ls[N]? = some bd) (hm : m = ls.length) (hmc : m ≤ c) (hN9 : N ≤ 50)
    (hT : LIn W0 Any ls A 0) (hC : ∀ t ∈ ls, ∀ A' c', TIn W0 Any t A' → TreeC W0 b t A' c')
    (l : List UInt8) (W : World) (hI : Below W0.heap.size W0 W) (hW : WB W0.heap.size b l W) (hBw : W0.heap.size ≤ W.heap.size)
    (hlen : l.length + (joinS (s.data.toList :: (ls.take N).map (fun t => parS 5 (levelT t, showT t)) ++ [[45, 62], parS 0 (levelT bd, showT bd)])).length ≤ 1000000) :
    Calls Tryz.prog 56 #[.pointer (some ⟨b, 0, none⟩), .agg #[.int .i64 8, .string s, .int .i64 N, .int .i64 a, .slice A m c]] W
      fun e w' => WPo W0.heap.size b l (joinS (s.data.toList :: (ls.take N).map (fun t => parS 5 (levelT t, showT t)) ++ [[45, 62], parS 0 (levelT bd, showT bd)])) W e w' := by
  have hNl : N < ls.length := (List.getElem?_eq_some_iff.1 hbd).1
  have hbe : ls[N]'hNl = bd := (List.getElem?_eq_some_iff.1 hbd).2
  obtain ⟨g, o, A', c', ⟨rfl, _⟩, h0, h1, h2, h3, h4, ht⟩ := LIn.at_ ls hT N hNl
  rw [hbe] at h0 h1 h2 h3 h4 ht
  rw [Nat.zero_add] at h0 h1 h2 h3 h4
  have hmem : bd ∈ ls := by rw [← hbe]; exact List.getElem_mem hNl
  have hg : g < W0.heap.size := cell_lt h0
  have hNm : N < m := by omega
  have hNc : N ≤ c := by omega
  have hbW := wb_lt hW
  have hl2 : (ls.take N).length = N := by rw [List.length_take]; omega
  have HAT := fun W1 (hI1 : Below W0.heap.size W0 W1) => atoms_any W0 s (ls.take N) (some ⟨g, o, none⟩) N c hl2.symm (by omega) (LIn.take ls N hT) W1 hI1
  obtain ⟨Y, hY⟩ : ∃ Y, Y = joinS (s.data.toList :: (ls.take N).map (fun t => parS 5 (levelT t, showT t)) ++ [[45, 62], parS 0 (levelT bd, showT bd)]) := ⟨_, rfl⟩
  rw [← hY] at hlen ⊢
  obtain ⟨pv, hpv⟩ : ∃ pv : Value, pv = .iface 90 (.agg #[.int .i64 bd.kind, .string bd.name, .int .i64 bd.n, .int .i64 bd.place, .slice A' bd.parts.length (capF bd.parts.length c'), .int .i64 0]) := ⟨_, rfl⟩
  have wd1 := wd_part W0 b bd A' c' 0 (hC bd hmem _ _ ht)
  rw [← hpv] at wd1
  have HWO := fun (vs : List Value) (v : Value) (base : Nat) (W1 : World) (hvs : PartVs W0 5 (ls.take N) vs) (hown : W1.ownsRow base 20 1 v (N + 1 + 2) (.iface 9 (.string s) :: vs ++ [.iface 9 (.string ⟨#[45, 62]⟩), pv])) (hb : b < base) (h1 : Below W0.heap.size W0 W1) (h2 : WB W0.heap.size b l W1) =>
    words_own W0 b htab (.iface 9 (.string s) :: vs ++ [.iface 9 (.string ⟨#[45, 62]⟩), pv]) (s.data.toList :: (ls.take N).map (fun t => parS 5 (levelT t, showT t)) ++ [[45, 62], parS 0 (levelT bd, showT bd)]) (N + 1 + 2) base v
      (by have := partVs_len hvs; simp; omega) (by have := partVs_len hvs; simp; omega) (by omega) (by omega)
      (wds_app (by have := partVs_len hvs; simp; omega) (wds_cons (wd_name _ _ _ _) (partVs_wds hvs fun t ht => hC t (List.mem_of_mem_take ht))) (wds_cons (wd_lit _ _ _ [45, 62]) (wds_cons wd1 wds_nil))) l W1 hown hb h1 h2 (by rw [← hY]; exact hlen)
  rw [← hY] at HWO
  have HWO := Lib.hid HWO
  have HAT := Lib.hid HAT
  clear hY wd1 htab hT hC ht hmem hbd hbe
  obtain ⟨kk, hk⟩ : ∃ kk, kk = bd.kind := ⟨_, rfl⟩
  obtain ⟨ss, hs⟩ : ∃ ss, ss = bd.name := ⟨_, rfl⟩
  obtain ⟨nn, hn⟩ : ∃ nn, nn = bd.n := ⟨_, rfl⟩
  obtain ⟨aa, ha⟩ : ∃ aa, aa = bd.place := ⟨_, rfl⟩
  obtain ⟨mm, hmm⟩ : ∃ mm, mm = bd.parts.length := ⟨_, rfl⟩
  rw [← hk, ← hs, ← hn, ← ha, ← hmm] at hpv
  rw [← hk] at h0
  rw [← hs] at h1
  rw [← hn] at h2
  rw [← ha] at h3
  rw [← hmm] at h4
  subst hpv
  clear hk hs hn ha hmm hm hl2
  obtain ⟨O, hO⟩ : ∃ O, O = Obj.cells #[.int .i64 8, .string s, .int .i64 N, .int .i64 a, .slice (some ⟨g, o, none⟩) m c] 24 := ⟨_, rfl⟩
  have hba : Below W0.heap.size W (W.alloc O) := (Below.refl _ W).alloc (by omega) _
  have hBa := wb_alloc hW O
  have hbx : Below W.heap.size W (W.alloc O) := (Below.refl _ W).alloc (Nat.le_refl _) _
  have hIa := hI.trans hba
  have hka : Lib.OthersKept 5 (some b) W (W.alloc O) := (Lib.OthersKept.refl _ _ W).alloc O
  have hsa := hba.size
  have hL : Lies (W.alloc O) W.heap.size 24 #[.int .i64 8, .string s, .int .i64 N, .int .i64 a, .slice (some ⟨g, o, none⟩) m c] := by
    subst hO
    exact Lies.new _ _ _
  have hsz : (W.alloc O).heap.size = W.heap.size + 1 := by simp
  have hS : ∀ V, Below (W.heap.size + 1) (W.alloc O) V → V.cell? ⟨W.heap.size, 1, none⟩ = some (.string s) ∧ V.cell? ⟨W.heap.size, 2, none⟩ = some (.int .i64 N) ∧ V.cell? ⟨W.heap.size, 4, none⟩ = some (.slice (some ⟨g, o, none⟩) m c) := by
    intro V hb
    have h := hL.below hb (by omega)
    exact ⟨h.cell 1, h.cell 2, h.cell 4⟩
  have HS := Lib.hid hS
  obtain ⟨W1, hW1⟩ : ∃ W1, W1 = W.alloc O := ⟨_, rfl⟩
  have hd1 : Below (W.heap.size + 1) W1 W1.drew := (Below.refl _ W1).drew
  go_enter Tryz.func56, Tryz.ntmps56
  go_wp2_with fail
  rw [← hO]
  rw [← hW1] at hba hBa hIa hka hsa hsz hbx HS ⊢
  clear hS hL hW1 hO
  have HA1 := Lib.hid (HAT.out W1.drew (hIa.trans (hd1.mono (by omega))))
  clear HAT
  go_region_held3 (fun V => V.cell? ⟨W.heap.size, 1, none⟩ = some (.string s) ∧ V.cell? ⟨W.heap.size, 2, none⟩ = some (.int .i64 N) ∧ V.cell? ⟨W.heap.size, 4, none⟩ = some (.slice (some ⟨g, o, none⟩) m c))
    (first | exact HS.out _ hd1 | exact HS.out _ hd2)
    ((first
      | (go_at_call 58
         refine HA1.out.mono ?_
         rintro e w2 ⟨v, vs, rfl, hvs, hown, hb2⟩
         have hd2 : Below (W.heap.size + 1) W1 w2 := hd1.trans (hb2.mono (by show W.heap.size + 1 ≤ W1.heap.size; omega)))))
  have hs2 := hd2.size
  have hI2 : Below W0.heap.size W0 w2 := hIa.trans (hd2.mono (by omega))
  obtain ⟨x1, x2, x4⟩ := HS.out _ hd2
  have hc : ∀ j, w2.cell? ⟨g, j, none⟩ = W0.cell? ⟨g, j, none⟩ := fun j => hI2.cell (p := ⟨g, j, none⟩) hg
  rw [← hc] at h0 h1 h2 h3 h4
  have hl2 : (ls.take N).length = N := by rw [List.length_take]; omega
  rw [hl2] at hown
  have hbo : W1.drew.heap.size = W.heap.size + 1 := hsz
  rw [hbo] at hown
  obtain ⟨A2, c2, rfl⟩ := own_slice hown
  have hgw : g < w2.heap.size := by omega
  obtain ⟨i0, hi0, hz0, hz1, hz2⟩ := info_parts infoA
  clear hc hl2 hbo hd1 HA1 hBa hIa
  go_wp2_with (at_builtin; refine wpList_append_own _ rfl _ _ 92 rfl (W.heap.size + 1) 20 i0 .nilIface 1 16 Tryz.underlying92 hi0 hz0 hz1 hz2 rfl (by decide) _ _ _ rfl (hown.alloc _) ⟨w2.heap.size, 0, none⟩ 2 2 [.iface 9 (.string ⟨#[45, 62]⟩), .iface 90 (.agg #[.int .i64 kk, .string ss, .int .i64 nn, .int .i64 aa, .slice A' mm (capF mm c'), .int .i64 0])] rfl rfl ?c1 ?c2 ?c3 ?c4 ?c5 ?_)
  case c1 => exact new_cells _ 20 [.iface 9 (.string ⟨#[45, 62]⟩), .iface 90 (.agg #[.int .i64 kk, .string ss, .int .i64 nn, .int .i64 aa, .slice A' mm (capF mm c'), .int .i64 0])] _ (by simp)
  case c2 => intro u hu; simp at hu; rcases hu with rfl | rfl <;> rfl
  case c3 => simp only [maxLen]; omega
  case c4 => omega
  case c5 => simp; omega
  intro v' w3 hown3 hg3 _
  have hb3 : Below (W.heap.size + 1) w2 w3 := ((Below.refl _ w2).alloc (by omega) _).grown hg3 (by simp; omega) (fun q hq => (hown.lt q hq).1)
  have hI3 : Below W0.heap.size W0 w3 := hI2.trans (hb3.mono (by omega))
  have hzz : Below W.heap.size W w3 := (hbx.trans (hd2.mono (by omega))).trans (hb3.mono (by omega))
  have hB3 : WB W0.heap.size b l w3 := wb_below hW hzz
  have HW3 := Lib.hid (HWO.out vs v' (W.heap.size + 1) w3 hvs hown3 (by omega) hI3 hB3)
  have hbz : Below W0.heap.size W w3 := hzz.mono (by omega)
  have hkz : Lib.OthersKept 5 (some b) W w3 := kept_below hzz
  clear hi0 hz0 hz1 hz2 hg3 hown hown3 hvs HWO x1 x2 x4 h0 h1 h2 h3 h4
  go_wp2_with fail
  refine HW3.out.mono ?_
  rintro e w4 ⟨rfl, hB4, hb4, hk4⟩
  go_wp2_with fail
  go_end0
  exact ⟨rfl, hB4, hbz.trans hb4, hkz.trans hk4⟩
end Lx
end Go.Proofs.YteabbkhlgnoliaaGreatDoor
namespace Go.Proofs.YteabbkhlgnoliaaGreatDoor
open Go.RowKit Go.Sort
namespace Lx
set_option maxRecDepth 100000
def sgB (i : Nat) : List UInt8 := if i = 0 then [123] else [124]
theorem altW_snoc (s : List UInt8) : ∀ (l : List (Int × List UInt8)) (x : Int × List UInt8), altW s (l ++ [x]) = altW s l ++ [if l.length = 0 then s else [124], parS 0 x]
  | [], x => by simp [altW]
  | [y], x => by simp [altW]
  | y :: z :: r, x => by
    have := altW_snoc [124] (z :: r) x
    rw [List.cons_append, altW, this]
    simp [altW]
theorem altW_len (s : List UInt8) : ∀ l : List (Int × List UInt8), (altW s l).length = 2 * l.length
  | [] => rfl
  | y :: r => by simp only [altW, List.length_cons, altW_len [124] r]; omega
/-- Parts' levels and texts. -/
def lt (l : List Tr) : List (Int × List UInt8) := l.map fun t => (levelT t, showT t)
theorem lt_len (l : List Tr) : (lt l).length = l.length := by simp [lt]
set_option maxHeartbeats 8000000 in
theorem wchoice_any (W0 : World) (b : Nat) (n a : Int) (s : ByteArray) (p0 : Tr) (ls : List Tr) (A : Option Addr) (c M : Nat) (htab : Lib.TabIs Tryz.prog W0 "internal/strconv.uint64pow10" .u64 Lib.pow10Tab) (hM : M = ls.length) (hM1 : 1 ≤ M) (hM9 : M ≤ 50) (hmc : M + 1 ≤ c)
    (hT : LIn W0 Any (p0 :: ls) A 0) (hC : ∀ t ∈ p0 :: ls, ∀ A' c', TIn W0 Any t A' → TreeC W0 b t A' c')
    (l : List UInt8) (W : World) (hI : Below W0.heap.size W0 W) (hW : WB W0.heap.size b l W) (hBw : W0.heap.size ≤ W.heap.size)
    (hlen : l.length + (joinS ([[99, 97, 115, 101], parS 0 (levelT p0, showT p0), [111, 102]] ++ altW [123] (lt ls) ++ [[125]])).length ≤ 1000000) :
    Calls Tryz.prog 55 #[.pointer (some ⟨b, 0, none⟩), .agg #[.int .i64 7, .string s, .int .i64 n, .int .i64 a, .slice A (M + 1) c]] W
      fun e w' => WPo W0.heap.size b l (joinS ([[99, 97, 115, 101], parS 0 (levelT p0, showT p0), [111, 102]] ++ altW [123] (lt ls) ++ [[125]])) W e w' := by
  have h00 := LIn.at_ (p0 :: ls) hT 0 (by simp)
  obtain ⟨g, o, A0, c0, ⟨rfl, _⟩, h0, h1, h2, h3, h4, ht⟩ := h00
  simp only [List.getElem_cons_zero, Nat.zero_mul, Nat.add_zero] at h0 h1 h2 h3 h4 ht
  have hg : g < W0.heap.size := cell_lt h0
  have hbW := wb_lt hW
  have hc1 : ¬ c = 1 := by omega
  have hMa : M ≤ ls.length := by omega
  have hMb : ls.length ≤ M := by omega
  clear hM
  have HP := fun (i : Nat) (hi : i < M) => LIn.at_ (p0 :: ls) hT (i + 1) (by simp; omega)
  have wd0 := wd_part W0 b p0 A0 c0 0 (hC p0 (by simp) _ _ ht)
  obtain ⟨Y, hY⟩ : ∃ Y, Y = joinS ([[99, 97, 115, 101], parS 0 (levelT p0, showT p0), [111, 102]] ++ altW [123] (lt ls) ++ [[125]]) := ⟨_, rfl⟩
  rw [← hY] at hlen ⊢
  have hws0 : WdsAre W0.heap.size b (Below W0.heap.size W0) [.iface 9 (.string ⟨#[99, 97, 115, 101]⟩), .iface 90 (.agg #[.int .i64 p0.kind, .string p0.name, .int .i64 p0.n, .int .i64 p0.place, .slice A0 p0.parts.length (capF p0.parts.length c0), .int .i64 0]), .iface 9 (.string ⟨#[111, 102]⟩)] [[99, 97, 115, 101], parS 0 (levelT p0, showT p0), [111, 102]] :=
    wds_cons (wd_lit _ _ _ [99, 97, 115, 101]) (wds_cons wd0 (wds_cons (wd_lit _ _ _ [111, 102]) wds_nil))
  have HWO := fun (vs : List Value) (v : Value) (base : Nat) (W1 : World) (hvl : vs.length = 3 + 2 * M) (hvs : WdsAre W0.heap.size b (Below W0.heap.size W0) vs ([[99, 97, 115, 101], parS 0 (levelT p0, showT p0), [111, 102]] ++ altW [123] (lt ls))) (hown : W1.ownsRow base 20 1 v (3 + 2 * M + 1) (vs ++ [.iface 9 (.string ⟨#[125]⟩)])) (hb : b < base) (h1 : Below W0.heap.size W0 W1) (h2 : WB W0.heap.size b l W1) =>
    words_own W0 b htab (vs ++ [.iface 9 (.string ⟨#[125]⟩)]) ([[99, 97, 115, 101], parS 0 (levelT p0, showT p0), [111, 102]] ++ altW [123] (lt ls) ++ [[125]]) (3 + 2 * M + 1) base v
      (by simp; omega) (by simp [altW_len, lt_len]; omega) (by omega) (by omega)
      (wds_app (by simp [altW_len, lt_len]; omega) hvs (wds_cons (wd_lit _ _ _ [125]) wds_nil)) l W1 hown hb h1 h2 (by rw [← hY]; exact hlen)
  rw [← hY] at HWO
  have HWO := Lib.hid HWO
  have HP := Lib.hid HP
  have HCC := Lib.hid hC
  clear hY wd0 htab hT hC ht
  obtain ⟨kk, hk⟩ : ∃ kk, kk = p0.kind := ⟨_, rfl⟩
  obtain ⟨ss, hs⟩ : ∃ ss, ss = p0.name := ⟨_, rfl⟩
  obtain ⟨nn, hn⟩ : ∃ nn, nn = p0.n := ⟨_, rfl⟩
  obtain ⟨aa, ha⟩ : ∃ aa, aa = p0.place := ⟨_, rfl⟩
  obtain ⟨mm, hmm⟩ : ∃ mm, mm = p0.parts.length := ⟨_, rfl⟩
  rw [← hk, ← hs, ← hn, ← ha, ← hmm] at hws0
  rw [← hk] at h0
  rw [← hs] at h1
  rw [← hn] at h2
  rw [← ha] at h3
  rw [← hmm] at h4
  have hc : ∀ j, W.cell? ⟨g, j, none⟩ = W0.cell? ⟨g, j, none⟩ := fun j => hI.cell (p := ⟨g, j, none⟩) hg
  rw [← hc] at h0 h1 h2 h3 h4
  have hgW : g < W.heap.size := by omega
  have HW0 := Lib.hid hws0
  clear hk hs hn ha hmm hc hws0
  have hown0 := owns_new (W.alloc (.cells #[.int .i64 7, .string s, .int .i64 n, .int .i64 a, .slice (some ⟨g, o, none⟩) (M + 1) c] 24)) 20 (W.heap.size + 1) 3 [.iface 9 (.string ⟨#[99, 97, 115, 101]⟩), .iface 90 (.agg #[.int .i64 kk, .string ss, .int .i64 nn, .int .i64 aa, .slice A0 mm (capF mm c0), .int .i64 0]), .iface 9 (.string ⟨#[111, 102]⟩)] (by simp) rfl (by decide)
  rw [show (W.alloc (.cells #[.int .i64 7, .string s, .int .i64 n, .int .i64 a, .slice (some ⟨g, o, none⟩) (M + 1) c] 24)).heap.size = W.heap.size + 1 from by simp] at hown0
  go_enter Tryz.func55, Tryz.ntmps55
  go_wp2_with fail
  go_loopw [4, 5, 21] (fun x y z wr => ∃ (i : Nat) (vs : List Value), i ≤ M ∧ z = .int .i64 i ∧ y = .string ⟨(sgB i).toArray⟩ ∧ vs.length = 3 + 2 * i ∧ WdsAre W0.heap.size b (Below W0.heap.size W0) vs ([[99, 97, 115, 101], parS 0 (levelT p0, showT p0), [111, 102]] ++ altW [123] (lt (ls.take i))) ∧
    wr.ownsRow (W.heap.size + 1) 20 1 x (3 + 2 * i) vs ∧ Below W.heap.size W wr ∧ W.heap.size + 1 ≤ wr.heap.size) (fun _ _ z _ => M - (intOf z).toNat)
  case atStart => exact ⟨0, _, by omega, rfl, rfl, rfl, by simpa [altW, lt] using HW0.out, hown0, ((Below.refl _ W).alloc (Nat.le_refl _) _).alloc (by simp) _, by simp⟩
  case round =>
    obtain ⟨i, vs, hi, rfl, rfl, hvl, hws, hown, hb, hbs⟩ := hrel
    by_cases hlt : i < M
    · obtain ⟨g', o', A', c', ⟨e, _⟩, k0, k1, k2, k3, k4, kt⟩ := HP.out i hlt
      simp only [Option.some.injEq, Addr.mk.injEq, and_true] at e
      obtain ⟨rfl, rfl⟩ := e
      rw [Nat.zero_add, show o + (i + 1) * 5 = o + 5 + i * 5 from by omega] at k0 k1 k2 k3 k4
      simp only [List.getElem_cons_succ] at k0 k1 k2 k3 k4 kt
      have hbw : Below W0.heap.size W0 wr := hI.trans (hb.mono hBw)
      have hc : ∀ j, wr.cell? ⟨g, j, none⟩ = W0.cell? ⟨g, j, none⟩ := fun j => hbw.cell (p := ⟨g, j, none⟩) hg
      rw [← hc] at k0 k1 k2 k3 k4
      have wdi := wd_part W0 b (ls[i]'(by omega)) A' c' 0 (HCC.out _ (by simp) _ _ kt)
      have hsn : WdsAre W0.heap.size b (Below W0.heap.size W0) (vs ++ [.iface 9 (.string ⟨(sgB i).toArray⟩), .iface 90 (.agg #[.int .i64 (ls[i]'(by omega)).kind, .string (ls[i]'(by omega)).name, .int .i64 (ls[i]'(by omega)).n, .int .i64 (ls[i]'(by omega)).place, .slice A' (ls[i]'(by omega)).parts.length (capF (ls[i]'(by omega)).parts.length c'), .int .i64 0])])
          ([[99, 97, 115, 101], parS 0 (levelT p0, showT p0), [111, 102]] ++ altW [123] (lt (ls.take (i + 1)))) := by
        have htk : lt (ls.take (i + 1)) = lt (ls.take i) ++ [(levelT (ls[i]'(by omega)), showT (ls[i]'(by omega)))] := by
          show (ls.take (i + 1)).map _ = (ls.take i).map _ ++ _
          rw [List.take_succ_eq_append_getElem (by omega), List.map_append]; rfl
        rw [htk, altW_snoc, ← List.append_assoc]
        refine wds_app (by simp [altW_len, lt_len]; omega) hws (wds_cons ?_ (wds_cons wdi wds_nil))
        have he : (if (lt (ls.take i)).length = 0 then ([123] : List UInt8) else [124]) = sgB i := by
          rw [lt_len, List.length_take, Nat.min_eq_left (by omega)]; rfl
        rw [he]
        exact wd_lit _ _ _ _
      obtain ⟨kk, hk⟩ : ∃ kk, kk = (ls[i]'(by omega)).kind := ⟨_, rfl⟩
      obtain ⟨ss, hs⟩ : ∃ ss, ss = (ls[i]'(by omega)).name := ⟨_, rfl⟩
      obtain ⟨nn, hn⟩ : ∃ nn, nn = (ls[i]'(by omega)).n := ⟨_, rfl⟩
      obtain ⟨aa, ha⟩ : ∃ aa, aa = (ls[i]'(by omega)).place := ⟨_, rfl⟩
      obtain ⟨mm, hmm⟩ : ∃ mm, mm = (ls[i]'(by omega)).parts.length := ⟨_, rfl⟩
      rw [← hk, ← hs, ← hn, ← ha, ← hmm] at hsn
      rw [← hk] at k0
      rw [← hs] at k1
      rw [← hn] at k2
      rw [← ha] at k3
      rw [← hmm] at k4
      have HSN := Lib.hid hsn
      have HVL := Lib.hid hvl
      obtain ⟨sb, hsb⟩ : ∃ sb, sb = sgB i := ⟨_, rfl⟩
      have hsb2 : sgB (i + 1) = [124] := by simp [sgB]
      have HSB := Lib.hid hsb2
      rw [← hsb] at HSN ⊢
      have hgw : g < wr.heap.size := by omega
      obtain ⟨i0, hi0, hz0, hz1, hz2⟩ := info_parts infoA
      clear hsn hk hs hn ha hmm kt hws hc wdi hvl hbw hsb hsb2 hown0 h0 h1 h2 h3 h4
      go_wp2_with (at_builtin; refine wpList_append_own _ rfl _ _ 92 rfl (W.heap.size + 1) 20 i0 .nilIface 1 16 Tryz.underlying92 hi0 hz0 hz1 hz2 rfl (by decide) _ _ _ rfl ((hown.alloc _).alloc _) ⟨wr.heap.size + 1, 0, none⟩ 2 2 [.iface 9 (.string ⟨sb.toArray⟩), .iface 90 (.agg #[.int .i64 kk, .string ss, .int .i64 nn, .int .i64 aa, .slice A' mm (capF mm c'), .int .i64 0])] rfl rfl ?c1 ?c2 ?c3 ?c4 ?c5 ?_)
      case c1 => exact new_cells _ 20 [.iface 9 (.string ⟨sb.toArray⟩), .iface 90 (.agg #[.int .i64 kk, .string ss, .int .i64 nn, .int .i64 aa, .slice A' mm (capF mm c'), .int .i64 0])] _ (by simp)
      case c2 => intro u hu; simp at hu; rcases hu with rfl | rfl <;> rfl
      case c3 => simp only [maxLen]; omega
      case c4 => omega
      case c5 => simp; omega
      intro v' w3 hown3 hg3 _
      have hB3 : Below W.heap.size W w3 := ((hb.alloc (by omega) _).alloc (by simp; omega) _).grown hg3 (by simp; omega) (fun q hq => (by have := (hown.lt q hq).1; omega))
      have hs3 : W.heap.size + 1 ≤ w3.heap.size := by
        have := (((Below.refl (W.heap.size + 1) wr).alloc (by omega) _).alloc (by simp; omega) _ |>.grown hg3 (by simp; omega) (fun q hq => (hown.lt q hq).1)).size
        omega
      clear hi0 hz0 hz1 hz2 hg3 hown
      go_wp2_with fail
      go_roundw
      case rel =>
        refine ⟨i + 1, _, by omega, by go_num, by rw [HSB.out], ?_, HSN.out, ?_, hB3, hs3⟩
        · have := HVL.out
          simp only [List.length_append, List.length_cons, List.length_nil]; omega
        · rw [show 3 + 2 * (i + 1) = 3 + 2 * i + 2 from by omega]
          exact hown3
      case measure => simp [intOf]; omega
    · obtain rfl : i = M := by omega
      rw [List.take_of_length_le (by omega)] at hws
      have hbw : Below W0.heap.size W0 wr := hI.trans (hb.mono hBw)
      obtain ⟨i0, hi0, hz0, hz1, hz2⟩ := info_parts infoA
      have HWS := Lib.hid hws
      have HVL := Lib.hid hvl
      obtain ⟨sb, hsb⟩ : ∃ sb, sb = sgB i := ⟨_, rfl⟩
      rw [← hsb]
      clear hws hvl hsb h0 h1 h2 h3 h4 hown0
      go_wp2_with (at_builtin; refine wpList_append_own _ rfl _ _ 92 rfl (W.heap.size + 1) 20 i0 .nilIface 1 16 Tryz.underlying92 hi0 hz0 hz1 hz2 rfl (by decide) _ _ _ rfl (hown.alloc _) ⟨wr.heap.size, 0, none⟩ 1 1 [.iface 9 (.string ⟨#[125]⟩)] rfl rfl ?d1 ?d2 ?d3 ?d4 ?d5 ?_)
      case d1 => exact new_cells _ 20 [.iface 9 (.string ⟨#[125]⟩)] _ (by simp)
      case d2 => intro u hu; simp at hu; subst hu; rfl
      case d3 => simp only [maxLen]; omega
      case d4 => omega
      case d5 => simp; omega
      intro v' w3 hown3 hg3 _
      have hzz : Below W.heap.size W w3 := (hb.alloc (by omega) _).grown hg3 (by simp; omega) (fun q hq => (by have := (hown.lt q hq).1; omega))
      have HW3 := Lib.hid (HWO.out vs v' (W.heap.size + 1) w3 HVL.out HWS.out hown3 (by omega) (hI.trans (hzz.mono hBw)) (wb_below hW hzz))
      clear hi0 hz0 hz1 hz2 hg3 hown hown3 HWO
      go_wp2_with fail
      refine HW3.out.mono ?_
      rintro e w4 ⟨rfl, hB4, hb4, hk4⟩
      go_wp2_with fail
      go_end0
      exact ⟨rfl, hB4, (hzz.mono hBw).trans hb4, (kept_below hzz).trans hk4⟩
end Lx
end Go.Proofs.YteabbkhlgnoliaaGreatDoor
