/-
  Walk of the law LexBoth.
-/
import Derived.Test.YthfchcnmedklbaaDoorFixed
import Derived.Test.YthfchcnmedklbaaDoorJoin
import Derived.Test.YthfchcnmedklbaaDoorLawAgain
import Derived.Laws.AppendOwnNone
namespace Go.Proofs.YthfchcnmedklbaaDoor
open Go.RowKit
namespace Lx
/-- lex.All, whatever comes of it. -/
theorem all_gen (s : ByteArray) (w : World) (hs : s.size ≤ 60000) (hg : Signs w) :
    Calls Tryd.prog 10 #[.string s] w fun e w' => ∃ A n c p x, e = .returned (.tuple #[.slice A n c, .int .i64 p, .int .i64 x]) ∧ Below w.heap.size w w' := by
  cases h : allK s.data.toList with
  | ok ts =>
    refine (all_good s ts w hs hg h).mono ?_
    rintro e w' ⟨A, c, rfl, _, hb⟩
    exact ⟨A, _, c, 0, 0, rfl, hb⟩
  | error px =>
    obtain ⟨p, x⟩ := px
    refine (all_bad s p x w hs hg h).mono ?_
    rintro e w' ⟨rfl, hb⟩
    exact ⟨none, 0, 0, p, x, rfl, hb⟩
theorem join_data (s t : ByteArray) : ((s ++ (⟨#[32]⟩ : ByteArray)) ++ t).data.toList = s.data.toList ++ 32 :: t.data.toList := by
  rw [Joins.data_append, Joins.data_append]
  simp
theorem join_size (s t : ByteArray) : ((s ++ (⟨#[32]⟩ : ByteArray)) ++ t).size = s.size + 1 + t.size := by
  rw [Lib.size_eq, join_data, Lib.size_eq s, Lib.size_eq t]
  simp; omega

set_option maxHeartbeats 2000000 in
theorem both_big (s t : ByteArray) (w : World) (hg : Signs w) (h : 1000 < s.size ∨ (s.size ≤ 1000 ∧ 1000 < t.size)) :
    Calls Tryd.prog 6 #[.string s, .string t] w fun e w' => e = .returned (.bool true) ∧ Below w.heap.size w w' := by
  have hpos := hg.pos
  rcases h with h | ⟨h, h2⟩
  all_goals
    go_enter Tryd.func6, Tryd.ntmps6
    go_wp2_with fail
    refine (fixed_any _ hg).mono ?_
    rintro e w1 ⟨rfl, hb1⟩
    have hg1 := hg.below hb1 hpos
    go_wp2_with fail
    refine (fixed_any _ hg1).mono ?_
    rintro e w2 ⟨rfl, hb2⟩
    go_wp2_with fail
    go_ret
    exact ⟨rfl, hb1.trans (hb2.mono hb1.size)⟩

set_option maxHeartbeats 2000000 in
theorem both_first (s t : ByteArray) (w : World) (hg : Signs w) (h1 : s.size ≤ 1000) (h2 : t.size ≤ 1000) (p x : Int) (hx : (x == 0) = false) (hk : allK s.data.toList = .error (p, x)) :
    Calls Tryd.prog 6 #[.string s, .string t] w fun e w' => e = .returned (.bool true) ∧ Below w.heap.size w w' := by
  have hpos := hg.pos
  have hx2 : (x != 0) = true := by simp [bne, hx]
  have hj : allK ((s ++ (⟨#[32]⟩ : ByteArray)) ++ t).data.toList = .error (p, x) := by rw [join_data, allK_join, hk]; rfl
  have hjs : ((s ++ (⟨#[32]⟩ : ByteArray)) ++ t).size ≤ 60000 := by rw [join_size]; omega
  have HK := Lib.hid hk
  have HJ := Lib.hid hj
  clear hk hj
  go_enter Tryd.func6, Tryd.ntmps6
  go_wp2_with fail
  refine (fixed_any _ hg).mono ?_
  rintro e w1 ⟨rfl, hb1⟩
  have hg1 := hg.below hb1 hpos
  have hs1 := hb1.size
  go_wp2_with fail
  refine (all_bad s p x _ (by omega) hg1 HK.out).mono ?_
  rintro e w2 ⟨rfl, hb2⟩
  have hg2 := hg1.below hb2 (by omega)
  have hB2 := hb1.trans (hb2.mono hs1)
  have hs2 := hb2.size
  clear hb1 hb2 hg1
  go_wp2_with fail
  refine (all_gen t _ (by omega) hg2).mono ?_
  rintro e w3 ⟨A3, n3, c3, p3, x3, rfl, hb3⟩
  have hg3 := hg2.below hb3 (by omega)
  have hB3 := hB2.trans (hb3.mono (by omega))
  have hs3 := hb3.size
  clear hb3 hg2 hB2
  go_wp2_with fail
  refine (all_bad ((s ++ (⟨#[32]⟩ : ByteArray)) ++ t) p x _ hjs hg3 HJ.out).mono ?_
  rintro e w4 ⟨rfl, hb4⟩
  have hB4 := hB3.trans (hb4.mono (by omega))
  clear hb4 hg3 hB3
  go_wp2_with fail
  go_ret
  exact ⟨ret_bool (by simp), hB4⟩

set_option maxHeartbeats 2000000 in
theorem both_second (s t : ByteArray) (w : World) (hg : Signs w) (h1 : s.size ≤ 1000) (h2 : t.size ≤ 1000) (a : List Tok) (p x : Int) (hx : (x == 0) = false) (ha : allK s.data.toList = .ok a) (hk : allK t.data.toList = .error (p, x)) :
    Calls Tryd.prog 6 #[.string s, .string t] w fun e w' => e = .returned (.bool true) ∧ Below w.heap.size w w' := by
  have hpos := hg.pos
  have hx2 : (x != 0) = true := by simp [bne, hx]
  have hxx : (x == x) = true := by simp
  obtain ⟨j, rfl, hjl⟩ := allK_place hk
  rw [← Lib.size_eq] at hjl
  have hj : allK ((s ++ (⟨#[32]⟩ : ByteArray)) ++ t).data.toList = .error ((s.size : Int) + 1 + (j : Int), x) := by
    rw [join_data, allK_join, ha, hk, ← Lib.size_eq]
    simp [follow, glue, shift]; omega
  have hjs : ((s ++ (⟨#[32]⟩ : ByteArray)) ++ t).size ≤ 60000 := by rw [join_size]; omega
  have HA := Lib.hid ha
  have HK := Lib.hid hk
  have HJ := Lib.hid hj
  clear hk hj ha
  go_enter Tryd.func6, Tryd.ntmps6
  go_wp2_with fail
  refine (fixed_any _ hg).mono ?_
  rintro e w1 ⟨rfl, hb1⟩
  have hg1 := hg.below hb1 hpos
  have hs1 := hb1.size
  go_wp2_with fail
  refine (all_row s a a.length rfl _ (by omega) hg1 HA.out).mono ?_
  rintro e w2 ⟨A2, c2, rfl, _, hb2⟩
  have hg2 := hg1.below hb2 (by omega)
  have hB2 := hb1.trans (hb2.mono hs1)
  have hs2 := hb2.size
  clear hb1 hb2 hg1
  go_wp2_with fail
  refine (all_bad t j x _ (by omega) hg2 HK.out).mono ?_
  rintro e w3 ⟨rfl, hb3⟩
  have hg3 := hg2.below hb3 (by omega)
  have hB3 := hB2.trans (hb3.mono (by omega))
  have hs3 := hb3.size
  clear hb3 hg2 hB2
  go_wp2_with fail
  refine (all_bad ((s ++ (⟨#[32]⟩ : ByteArray)) ++ t) ((s.size : Int) + 1 + (j : Int)) x _ hjs hg3 HJ.out).mono ?_
  rintro e w4 ⟨rfl, hb4⟩
  have hB4 := hB3.trans (hb4.mono (by omega))
  clear hb4 hg3 hB3
  go_wp2_with fail
  go_ret
  exact ⟨ret_bool (by simp), hB4⟩
section
variable {P : Program} {w : World}
/-- append of a whole slice that is one of the call's own, nil or not. -/
theorem wpList_append_rows {ops : Array Oper} {rest : List Oper} {o : Oper} {a : Act} {Q : Exit → Act → World → Prop} (hgd : o.guard = none) (s x : Operand) (t : TypeId)
    (ho : o.op = .call { callee := .builtin .append, args := #[s, x], argTypes := #[t, t] })
    (base : Nat) (e : TypeId) (i : TypeInfo) (z : Value) (size bytes : Nat) (ht : P.underlying t = some (.slice e)) (hi : P.info? e = some i) (hz : i.zero = some z)
    (hsize : i.size = size) (hby : i.bytes = bytes) (hzs : z.cells.size = size) (hsz : 0 < size)
    (v : Value) (n : Nat) (xs : List Value) (hs : a.eval s = v) (hown : w.ownsRow base e size v n xs)
    (base2 : Nat) (A : Option Addr) (m c : Nat) (news : List Value) (hx : a.eval x = .slice A m c) (hsrc : w.ownsRow base2 e size (.slice A m c) m news) (h1 : ∀ u ∈ news, u.oneCell' = true)
    (h63 : n + m ≤ maxLen) (hbytes : (n + m) * bytes ≤ 140737488355328) (hbase : base ≤ w.heap.size)
    (h : ∀ v' w', w'.ownsRow base e size v' (n + m) (xs ++ news) → w.grownBy w' v.ownBlock → wpList P ops Q rest (a.put o.dst v') w') : wpList P ops Q (o :: rest) a w := by
  rcases hsrc.2 with ⟨hv, hm⟩ | ⟨g, cap, cur, hv, _⟩
  · injection hv with hA _ hc
    subst hA hc hm
    have hn : news = [] := List.eq_nil_of_length_eq_zero (by simpa using hsrc.1)
    subst hn
    exact wpList_append_own_none hgd s x t ho base e i size ht hi v n xs hs hown hx (h v w (by simpa using hown) (World.grownBy.refl w _))
  · injection hv with hA _ hc
    subst hA hc
    exact wpList_append_own w hgd s x t ho base e i z size bytes ht hi hz hsize hby hzs hsz v n xs hs hown ⟨g, 0, none⟩ m c news hx hsrc.1 (hsrc.cells (g := g) rfl) h1 h63 hbytes hbase (fun v' w' a b _ => h v' w' a b)
end
theorem cells_one (l : List Tok) : ∀ u ∈ cellsOf l, u.oneCell' = true := by
  intro u hu
  simp only [cellsOf, List.mem_flatMap] at hu
  obtain ⟨t, _, ht⟩ := hu
  simp only [Tok.cells, List.mem_cons, List.not_mem_nil, or_false] at ht
  rcases ht with rfl | rfl | rfl | rfl <;> rfl
theorem all_own (s : ByteArray) (ts : List Tok) (n : Nat) (hn : ts.length = n) (w : World) (hs : s.size ≤ 60000) (hg : Signs w) (h : allK s.data.toList = .ok ts) :
    Calls Tryd.prog 10 #[.string s] w fun e w' => ∃ A c, e = .returned (.tuple #[.slice A n c, .int .i64 0, .int .i64 0]) ∧ w'.ownsRow w.heap.size 33 4 (.slice A n c) n (cellsOf ts) ∧ Below w.heap.size w w' := by
  subst hn
  exact all_good s ts w hs hg h

set_option maxHeartbeats 4000000 in
theorem both_ok (s t : ByteArray) (w : World) (hg : Signs w) (h1 : s.size ≤ 1000) (h2 : t.size ≤ 1000) (a b : List Tok) (ha : allK s.data.toList = .ok a) (hk : allK t.data.toList = .ok b) :
    Calls Tryd.prog 6 #[.string s, .string t] w fun e w' => e = .returned (.bool true) ∧ Below w.heap.size w w' := by
  have hpos := hg.pos
  obtain ⟨n, hn⟩ : ∃ n, a.length = n := ⟨_, rfl⟩
  obtain ⟨m, hm⟩ : ∃ m, b.length = m := ⟨_, rfl⟩
  have hj : allK ((s ++ (⟨#[32]⟩ : ByteArray)) ++ t).data.toList = .ok (a ++ b.map (moved (s.size + 1))) := by
    rw [join_data, allK_join, ha, hk, ← Lib.size_eq]
    simp [follow, glue, shift]
  have hjs : ((s ++ (⟨#[32]⟩ : ByteArray)) ++ t).size ≤ 60000 := by rw [join_size]; omega
  have hjn : (a ++ b.map (moved (s.size + 1))).length = n + m := by simp [hn, hm]
  have hn1 : n ≤ 1000 := by have := (allK_places ha).2; rw [← Lib.size_eq] at this; omega
  have hm1 : m ≤ 1000 := by have := (allK_places hk).2; rw [← Lib.size_eq] at this; omega
  have HPl := Lib.hid (allK_places hk).1
  have HA := Lib.hid ha
  have HK := Lib.hid hk
  have HJ := Lib.hid hj
  have HN := Lib.hid hn
  have HM := Lib.hid hm
  have HJN := Lib.hid hjn
  clear hk hj ha hn hm hjn
  go_enter Tryd.func6, Tryd.ntmps6
  go_wp2_with fail
  refine (fixed_any _ hg).mono ?_
  rintro e w1 ⟨rfl, hb1⟩
  have hg1 := hg.below hb1 hpos
  have hs1 := hb1.size
  go_wp2_with fail
  refine (all_own s a n HN.out _ (by omega) hg1 HA.out).mono ?_
  rintro e w2 ⟨A2, c2, rfl, hr2, hb2⟩
  have hg2 := hg1.below hb2 (by omega)
  have hB2 := hb1.trans (hb2.mono hs1)
  have hs2 := hb2.size
  clear hb1 hb2 hg1 hg
  go_wp2_with fail
  refine (all_own t b m HM.out _ (by omega) hg2 HK.out).mono ?_
  rintro e w3 ⟨A3, c3, rfl, hr3, hb3⟩
  have hg3 := hg2.below hb3 (by omega)
  have hB3 := hB2.trans (hb3.mono (by omega))
  have hr2' := own_below hr2 hb3 (Nat.le_refl _)
  have hs3 := hb3.size
  clear hb3 hg2 hB2 hr2
  go_wp2_with fail
  refine (all_own ((s ++ (⟨#[32]⟩ : ByteArray)) ++ t) _ (n + m) HJN.out _ hjs hg3 HJ.out).mono ?_
  rintro e w4 ⟨A4, c4, rfl, hr4, hb4⟩
  have hB4 := hB3.trans (hb4.mono (by omega))
  have hr2 := own_below hr2' hb4 (Nat.le_refl _)
  have hr3' := own_below hr3 hb4 (Nat.le_refl _)
  have hs4 := hb4.size
  clear hb4 hg3 hB3 hr2' hr3 hjs
  obtain ⟨i0, hi0, hz0, hz1, hz2⟩ := info_parts info33
  go_wp2_with (at_builtin; refine wpList_append_rows rfl _ _ 22 rfl w4.heap.size 33 i0 _ 4 40 Tryd.underlying22 hi0 hz0 hz1 hz2 rfl (by decide) _ 0 [] rfl (World.ownsRow_lit w4 #[] 0 (Nat.le_refl _) (by simp [maxLen]) rfl) _ A2 n c2 (cellsOf a) rfl (hr2.alloc _) (cells_one a) ?c3 ?c4 ?c5 ?_)
  case c3 => unfold maxLen; omega
  case c4 => omega
  case c5 => simp
  intro v' w5 hown5 hg5
  obtain ⟨A5, c5, rfl⟩ := own_slice hown5
  have hb5 : Below w4.heap.size w4 w5 := ((Below.refl _ w4).alloc (Nat.le_refl _) _).grown hg5 (by simp) (fun q hq => by simp [Value.ownBlock] at hq; omega)
  have hMl : m ≤ b.length := by rw [HM.out]; omega
  have hMg : b.length ≤ m := by rw [HM.out]; omega
  clear hr2 hg5
  go_wp2_with fail
  go_loopw [14, 15] (fun v x wr => ∃ (i : Nat) (A' : Option Addr) (c' : Nat), i ≤ m ∧ x = .int .i64 i ∧ v = .slice A' (n + i) c' ∧ wr.ownsRow w4.heap.size 33 4 (.slice A' (n + i) c') (n + i) (cellsOf (a ++ (b.map (moved (s.size + 1))).take i)) ∧ Below w4.heap.size w4 wr) (fun _ x _ => m - (intOf x).toNat)
  case atStart =>
    refine ⟨0, A5, c5, by omega, rfl, rfl, ?_, hb5⟩
    simpa using hown5
  case round =>
    obtain ⟨i, A', c', hi, rfl, rfl, hown, hbw⟩ := hrel
    have hbs := hbw.size
    by_cases hlt : i < m
    · have hib : i < b.length := by omega
      obtain ⟨g, o, hA, d0, d1, d2, d3⟩ := (Row.of_own (own_below hr3' hbw (Nat.le_refl _))).at_ hib
      subst hA
      obtain ⟨q, hq, hql⟩ := HPl.out (b[i]'hib) (List.getElem_mem hib)
      rw [← Lib.size_eq] at hql
      have hp0 : 0 ≤ (b[i]'hib).place := by omega
      have hp1 : (b[i]'hib).place ≤ 1000 := by omega
      clear hq hql
      obtain ⟨i1, hi1, hy0, hy1, hy2⟩ := info_parts info33
      clear hr3' hr4 hi0 hz0 hz1 hz2
      go_wp2_with (at_builtin; refine wpList_append_own _ rfl _ _ 22 rfl w4.heap.size 33 i1 _ 4 40 Tryd.underlying22 hi1 hy0 hy1 hy2 rfl (by decide) _ _ _ rfl ((hown.alloc _).alloc _) ⟨wr.heap.size + 1, 0, none⟩ 1 1 [.int .i64 (b[i]'hib).kind, .string ⟨(b[i]'hib).text.toArray⟩, .int .i64 (b[i]'hib).n, .int .i64 ((b[i]'hib).place + ((s.size : Int) + 1))] rfl rfl ?c1 ?c2 ?c3 ?c4 ?c5 ?_)
      case c1 => exact new_cells _ 33 [.int .i64 (b[i]'hib).kind, .string ⟨(b[i]'hib).text.toArray⟩, .int .i64 (b[i]'hib).n, .int .i64 ((b[i]'hib).place + ((s.size : Int) + 1))] _ (by simp)
      case c2 => intro u hu; simp at hu; rcases hu with rfl | rfl | rfl | rfl <;> rfl
      case c3 => unfold maxLen; omega
      case c4 => omega
      case c5 => simp; omega
      intro v' w6 hown6 hg6 _
      obtain ⟨A6, c6, rfl⟩ := own_slice hown6
      have hB6 : Below w4.heap.size w4 w6 := (((hbw.alloc hbs _).alloc (by simp; omega) _)).grown hg6 (by simp; omega) (fun q hq => (hown.lt q hq).1)
      clear hi1 hy0 hy1 hy2 hg6 hown
      go_wp2_with fail
      go_roundw
      case rel =>
        refine ⟨i + 1, A6, c6, by omega, by go_num, rfl, ?_, hB6⟩
        rw [List.take_succ_eq_append_getElem (by simpa using hib), List.getElem_map, ← List.append_assoc, cellsOf_snoc]
        have he : (moved (s.size + 1) (b[i]'hib)).cells = [.int .i64 (b[i]'hib).kind, .string ⟨(b[i]'hib).text.toArray⟩, .int .i64 (b[i]'hib).n, .int .i64 ((b[i]'hib).place + ((s.size : Int) + 1))] := by
          simp [moved, Tok.cells]
        rw [he]
        exact hown6
      case measure => simp [intOf]; omega
    · obtain rfl : i = m := by omega
      rw [List.take_of_length_le (by simp; omega)] at hown
      have hrc := Row.of_own (own_below hr4 hbw (Nat.le_refl _))
      have hrd := Row.of_own hown
      have hB6 := hB4.trans (hbw.mono (by omega))
      clear hi0 hz0 hz1 hz2 hr3' hr4 hown hbw
      go_wp2_with fail
      refine (same_self A4 A' _ (n + i) c4 c' HJN.out _ hrc hrd (by omega)).mono ?_
      rintro e w7 ⟨rfl, k, rfl⟩
      go_wp2_with fail
      go_ret
      exact ⟨rfl, below_drewN hB6 k⟩

theorem lawBoth_any (s t : ByteArray) (w : World) (hg : Signs w) : Calls Tryd.prog 6 #[.string s, .string t] w fun e w' => e = .returned (.bool true) ∧ Below w.heap.size w w' := by
  by_cases h1 : 1000 < s.size
  · exact both_big s t w hg (.inl h1)
  by_cases h2 : 1000 < t.size
  · exact both_big s t w hg (.inr ⟨by omega, h2⟩)
  cases hk : allK s.data.toList with
  | error px =>
    obtain ⟨p, x⟩ := px
    have hx := err_code hk
    exact both_first s t w hg (by omega) (by omega) p x (by rcases hx with rfl | rfl <;> rfl) hk
  | ok a =>
    cases hk2 : allK t.data.toList with
    | error px =>
      obtain ⟨p, x⟩ := px
      have hx := err_code hk2
      exact both_second s t w hg (by omega) (by omega) a p x (by rcases hx with rfl | rfl <;> rfl) hk hk2
    | ok b => exact both_ok s t w hg (by omega) (by omega) a b hk hk2
end Lx
end Go.Proofs.YthfchcnmedklbaaDoor
