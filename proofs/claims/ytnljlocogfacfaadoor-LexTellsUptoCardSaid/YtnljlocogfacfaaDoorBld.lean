/-
  Walks of strings.Builder's writers, and of lex.Text.
-/
import Derived.Test.YtnljlocogfacfaaDoorRows4
import Derived.Test.YtnljlocogfacfaaDoorAgain
import Derived.Test.YtnljlocogfacfaaDoorShelfB
import Derived.Lib.Builder
import Derived.Lib.AppendStr
import Derived.Lib.OthersKept
import Derived.Lib.UnsafeStr
import Derived.Laws.Externs
import Derived.Lib.FrozenHead
namespace Go.Proofs.YtnljlocogfacfaaDoor
open Go.RowKit
namespace Lx
set_option maxRecDepth 100000
theorem size46 : (Tryd.prog.info? 59).map (·.size) = some 2 := by kernel_rfl
theorem lies46 : liesAt Tryd.prog Tryd.prog.depth 59 (2 / Tryd.prog.cellsOf 59) 0 59 1 = true := by kernel_rfl
theorem info5 : (Tryd.prog.info? 5).map (fun i => (i.zero, i.size, i.bytes)) = some (some (.int .u8 0), 1, 1) := by kernel_rfl

set_option maxHeartbeats 1000000 in
theorem check_used (b : Nat) (w : World) (h0 : w.cell? ⟨b, 0, none⟩ = some (.pointer (some ⟨b, 0, none⟩))) :
    Calls Tryd.prog 54 #[.pointer (some ⟨b, 0, none⟩)] w fun e w' => e = .returned (.tuple #[]) ∧ w = w' := by
  obtain ⟨j, hj, _⟩ := Option.map_eq_some_iff.1 size46
  have hne := Lib.run_neq_ptr_same (P := Tryd.prog) w ⟨b, 0, none⟩ Tryd.underlying56 hj
  clear hj
  go_enter Tryd.func54, Tryd.ntmps54
  go_wp2
  go_end0
  exact ⟨rfl, rfl⟩
set_option maxHeartbeats 1000000 in
theorem check_fresh (b : Nat) (w : World) (h0 : w.cell? ⟨b, 0, none⟩ = some (.pointer none)) (hsh : w.shape? b = some (59, 2)) (hfz : w.frozen? ⟨b, 0, none⟩ = false) :
    Calls Tryd.prog 54 #[.pointer (some ⟨b, 0, none⟩)] w fun e w' => e = .returned (.tuple #[]) ∧ w' = w.setCell ⟨b, 0, none⟩ (.pointer (some ⟨b, 0, none⟩)) := by
  obtain ⟨j, hj, hjs⟩ := Option.map_eq_some_iff.1 size46
  have h1 := Lib.run_to_unsafe (P := Tryd.prog) w ⟨b, 0, none⟩ Tryd.underlying56 Tryd.underlying91 hj (by rw [hjs]; decide) hsh (Nat.zero_lt_succ 1)
  have h2 := Lib.run_from_unsafe (P := Tryd.prog) w ⟨b, 0, none⟩ Tryd.underlying91 Tryd.underlying56 hj hsh lies46
  have h3 : (callFunc 66 #[.pointer (some ⟨b, 0, none⟩)]).run Tryd.prog w = .ok (.value (.pointer (some ⟨b, 0, none⟩))) w := by
    rw [run_callFunc_extern Tryd.func66 (by kernel_rfl) (by kernel_rfl) (by kernel_rfl) (e := Extern.AbiNoEscape.same) (by kernel_rfl)]
    rw [Lib.run_noEscape]
    rfl
  clear hj hsh hjs
  go_enter Tryd.func54, Tryd.ntmps54
  go_wp2
  go_end0
  exact ⟨rfl, rfl⟩

/-- A builder of the call's own, in block b, that holds the bytes l. -/
abbrev Bld (B b : Nat) (l : List UInt8) (w : World) : Prop := Lib.IsBuilder 59 5 B b (Lib.byteCells l) w

theorem check_any (B b : Nat) (l : List UInt8) (w : World) (h : Bld B b l w) :
    Calls Tryd.prog 54 #[.pointer (some ⟨b, 0, none⟩)] w fun e w' => e = .returned (.tuple #[]) ∧ Lib.BuilderAt 59 5 B b (.pointer (some ⟨b, 0, none⟩)) (Lib.byteCells l) w' ∧ Below B w w' ∧ Lib.OthersKept 5 (some b) w w' := by
  rcases h with h | h
  · refine (check_fresh b w h.cell0 h.shape h.frozen0).mono ?_
    rintro e w' ⟨rfl, rfl⟩
    exact ⟨rfl, h.used _, (Below.refl B w).setCell (p := ⟨b, 0, none⟩) h.1 _, (Lib.OthersKept.refl _ _ w).setCell ⟨b, 0, none⟩ rfl _⟩
  · refine (check_used b w h.cell0).mono ?_
    rintro e w' ⟨rfl, rfl⟩
    exact ⟨rfl, h, Below.refl B _, Lib.OthersKept.refl _ _ _⟩

set_option maxHeartbeats 2000000 in
theorem byte_any (B b : Nat) (l : List UInt8) (c : UInt8) (w : World) (h : Bld B b l w) (hlen : l.length ≤ 100000000) (hBw : B ≤ w.heap.size) :
    Calls Tryd.prog 38 #[.pointer (some ⟨b, 0, none⟩), .int .u8 c.toNat] w fun e w' => e = .returned .nilIface ∧ Bld B b (l ++ [c]) w' ∧ Below B w w' ∧ Lib.OthersKept 5 (some b) w w' := by
  obtain ⟨i0, hi, hz0, hz1, hz2⟩ := info_parts info5
  go_enter Tryd.func38, Tryd.ntmps38
  go_wp2_with fail
  refine (check_any B b l _ h).mono ?_
  rintro e w1 ⟨rfl, ⟨hB, v, hbk, hown, hne⟩, hb1, hk1⟩
  have hL : Lies w1 b 59 #[.pointer (some ⟨b, 0, none⟩), v] := hbk
  have c0 := hL.cell 0
  have c1 := hL.cell 1
  simp at c0 c1
  have hs1 := hb1.size
  have hlc := Lib.byteCells_length l
  rw [hlc] at hown
  clear h hlc
  go_wp2_with (at_builtin; refine wpList_append_own _ rfl _ _ 57 rfl B 5 i0 (.int .u8 0) 1 1 Tryd.underlying57 hi hz0 hz1 hz2 rfl (by decide) _ _ _ rfl (hown.alloc _) ⟨w1.heap.size, 0, none⟩ 1 1 [.int .u8 c.toNat] rfl rfl ?c1 ?c2 ?c3 ?c4 ?c5 ?_)
  case c1 => exact new_cells _ 5 [.int .u8 c.toNat] _ rfl
  case c2 => intro u hu; simp at hu; subst hu; rfl
  case c3 => unfold maxLen; omega
  case c4 => omega
  case c5 => simp; omega
  intro v' w2 hown' hgrow _
  have hlt := hL.lt
  have hL2 : Lies w2 b 59 #[.pointer (some ⟨b, 0, none⟩), v] := (hL.old _).grown hgrow (fun e => hne e.symm)
  have d0 := hL2.cell 0
  have d1 := hL2.cell 1
  have f1 := hL2.frozen 1
  simp at d0 d1
  obtain ⟨A', c', rfl⟩ := own_slice hown'
  clear hi hz0 hz1 hz2 c0 c1
  go_wp2_with fail
  go_ret
  refine ⟨rfl, ?_, ?_, ?_⟩
  · refine .inr (Lib.BuilderAt.put (T := 59) (e := 5) hB hL2 ?_ (by decide))
    rw [Lib.byteCells_length, List.length_append, Lib.byteCells_append]
    exact hown'
  · exact ((hb1.alloc (by omega) _).grown hgrow (by simp; omega) (fun k hk => (hown.lt k hk).1)).setCell (p := ⟨b, 1, none⟩) hB _
  · exact ((hk1.alloc _).grown hgrow (Lib.ownsRowF_kind (World.ownsRowF_of (hown.alloc _)))).setCell ⟨b, 1, none⟩ rfl _

set_option maxHeartbeats 2000000 in
theorem string_any (B b : Nat) (l t : List UInt8) (w : World) (h : Bld B b l w) (hlen : l.length + t.length ≤ 100000000) (hBw : B ≤ w.heap.size) :
    Calls Tryd.prog 39 #[.pointer (some ⟨b, 0, none⟩), .string ⟨t.toArray⟩] w fun e w' => e = .returned (.tuple #[.int .i64 t.length, .nilIface]) ∧ Bld B b (l ++ t) w' ∧ Below B w w' ∧ Lib.OthersKept 5 (some b) w w' := by
  obtain ⟨i0, hi, hz0, hz1, hz2⟩ := info_parts info5
  go_enter Tryd.func39, Tryd.ntmps39
  go_wp2_with fail
  refine (check_any B b l _ h).mono ?_
  rintro e w1 ⟨rfl, ⟨hB, v, hbk, hown, hne⟩, hb1, hk1⟩
  have hL : Lies w1 b 59 #[.pointer (some ⟨b, 0, none⟩), v] := hbk
  have c0 := hL.cell 0
  have c1 := hL.cell 1
  simp at c0 c1
  have hs1 := hb1.size
  have hlc := Lib.byteCells_length l
  rw [hlc] at hown
  have hts : (⟨t.toArray⟩ : ByteArray).size = t.length := by rw [Lib.size_eq]
  have HT := Lib.hid hts
  clear h hlc hts
  go_wp2_with (at_builtin; refine Lib.wpList_append_own_string _ rfl _ _ 57 9 rfl B 5 i0 Tryd.underlying57 Tryd.underlying9 hi hz0 hz1 hz2 _ _ _ rfl hown _ rfl ?c3 ?c4 ?c5 ?_)
  case c3 => rw [HT.out]; unfold maxLen; omega
  case c4 => rw [HT.out]; omega
  case c5 => omega
  intro v' w2 hown' hgrow _
  have hlt := hL.lt
  have hL2 : Lies w2 b 59 #[.pointer (some ⟨b, 0, none⟩), v] := hL.grown hgrow (fun e => hne e.symm)
  have d0 := hL2.cell 0
  have d1 := hL2.cell 1
  have f1 := hL2.frozen 1
  simp at d0 d1
  obtain ⟨A', c', rfl⟩ := own_slice hown'
  clear hi hz0 hz1 hz2 c0 c1
  go_wp2_with fail
  go_ret2
  refine ⟨?_, ?_, ?_, ?_⟩
  · first | rfl | rw [HT.out]
  · refine .inr (Lib.BuilderAt.put (T := 59) (e := 5) hB hL2 ?_ (by decide))
    rw [Lib.byteCells_length, List.length_append, Lib.byteCells_append]
    exact hown'
  · exact (hb1.grown hgrow (by omega) (fun k hk => (hown.lt k hk).1)).setCell (p := ⟨b, 1, none⟩) hB _
  · exact (hk1.grown hgrow (Lib.ownsRowF_kind (World.ownsRowF_of hown))).setCell ⟨b, 1, none⟩ rfl _

theorem textS_snoc (l : List Tok) (t : Tok) (h : l ≠ []) : textS (l ++ [t]) = textS l ++ (32 :: t.text) := by
  induction l with
  | nil => exact absurd rfl h
  | cons a r ih =>
    cases r with
    | nil => rfl
    | cons b r =>
      have := ih (by simp)
      simp only [List.cons_append] at this ⊢
      simp only [textS, this, List.append_assoc, List.cons_append]
theorem textS_take (l : List Tok) (i : Nat) (h : i < l.length) (h0 : 0 < i) : textS (l.take (i + 1)) = textS (l.take i) ++ (32 :: (l[i]'h).text) := by
  rw [List.take_succ_eq_append_getElem h, textS_snoc _ _ (by intro e; have := congrArg List.length e; rw [List.length_take] at this; simp only [List.length_nil] at this; omega)]
theorem textS_one (l : List Tok) (h : 0 < l.length) : textS (l.take 1) = (l[0]'h).text := by
  cases l with
  | nil => simp at h
  | cons a r => rfl
theorem textS_mono (l : List Tok) (i : Nat) : (textS (l.take i)).length ≤ (textS l).length := by
  by_cases hi : l.length ≤ i
  · rw [List.take_of_length_le hi]; omega
  · have key : ∀ d, (textS (l.take (l.length - d))).length ≤ (textS l).length := by
      intro d
      induction d with
      | zero => rw [Nat.sub_zero, List.take_length]; omega
      | succ d ih =>
        by_cases hd : l.length ≤ d
        · rw [show l.length - (d + 1) = l.length - d from by omega]; exact ih
        · obtain ⟨k, hk⟩ : ∃ k, k = l.length - (d + 1) := ⟨_, rfl⟩
          rw [← hk]
          rw [show l.length - d = k + 1 from by omega] at ih
          by_cases h0 : 0 < k
          · rw [textS_take l k (by omega) h0] at ih
            simp at ih
            omega
          · rw [show k = 0 from by omega]
            simp [textS]
    have := key (l.length - i)
    rwa [show l.length - (l.length - i) = i from by omega] at this

theorem bld_alloc {B b : Nat} {l : List UInt8} {w : World} (h : Bld B b l w) (o : Obj) : Bld B b l (w.alloc o) := by
  rcases h with h | h
  · obtain ⟨hB, v, hb, hown, hne⟩ := h
    exact .inl ⟨hB, v, (Below.heap_alloc w o b (Array.getElem?_eq_some_iff.1 hb).1).trans hb, hown.alloc _, hne⟩
  · obtain ⟨hB, v, hb, hown, hne⟩ := h
    exact .inr ⟨hB, v, (Below.heap_alloc w o b (Array.getElem?_eq_some_iff.1 hb).1).trans hb, hown.alloc _, hne⟩
theorem bld_lt {B b : Nat} {l : List UInt8} {w : World} (h : Bld B b l w) : b < w.heap.size := by
  rcases h with h | h <;> exact h.lt
theorem Lies.others {w w' : World} {g b : Nat} {t : TypeId} {cs : Array Value} (h : Lies w g t cs) (hk : Lib.OthersKept 5 (some b) w w') (hg : g ≠ b) (ht : t ≠ 5) : Lies w' g t cs :=
  hk g _ h (by simpa using hg) (fun c fz e => by injection e with _ e2; exact ht e2)

set_option maxHeartbeats 2000000 in
theorem text_any (A : Option Addr) (a : List Tok) (n c : Nat) (hn : n = a.length) (w : World) (ha : Row w A a) (hs : n ≤ 60000) (ht : (textS a).length ≤ 100000000) :
    Calls Tryd.prog 15 #[.slice A n c] w fun e w' => e = .returned (.string ⟨(textS a).toArray⟩) ∧ Below w.heap.size w w' := by
  have hn1 : n ≤ a.length := by omega
  have hn2 : a.length ≤ n := by omega
  clear hn
  go_enter Tryd.func15, Tryd.ntmps15
  go_wp2_with fail
  go_loopw [8] (fun x wr => ∃ (i : Nat), i ≤ n ∧ x = .int .i64 i ∧ Bld w.heap.size w.heap.size (textS (a.take i)) wr ∧ Below w.heap.size w wr) (fun x _ => n - (intOf x).toNat)
  case atStart =>
    exact ⟨0, by omega, rfl, Lib.fresh_isBuilder 59 5 w, (Below.refl _ w).alloc (Nat.le_refl _) _⟩
  case round =>
    obtain ⟨i, hi, rfl, hI, hbw⟩ := hrel
    have hbs := hbw.size
    by_cases hlt : i < n
    · have hia : i < a.length := by omega
      obtain ⟨g, o, hA, d0, d1, d2, d3⟩ := (ha.below hbw (Nat.le_refl _)).at_ hia
      subst hA
      have hm1 := textS_mono a i
      have hm2 := textS_mono a (i + 1)
      clear ha
      by_cases h0 : 0 < i
      · have HS := Lib.hid (textS_take a i hia h0)
        rw [HS.out] at hm2
        simp at hm2
        have hI0 := bld_alloc hI (.cells #[.int .i64 (a[i]'hia).kind, .string ⟨(a[i]'hia).text.toArray⟩, .int .i64 (a[i]'hia).n, .int .i64 (a[i]'hia).place] 48)
        have hIl := bld_lt hI
        go_wp2_with fail
        refine (byte_any w.heap.size w.heap.size (textS (a.take i)) 32 _ hI0 (by omega) (by simp; omega)).mono ?_
        rintro e w2 ⟨rfl, hI2, hb2, hk2⟩
        have hsz2 := hb2.size
        simp at hsz2
        have hL2 := (Lies.new wr 48 #[.int .i64 (a[i]'hia).kind, .string ⟨(a[i]'hia).text.toArray⟩, .int .i64 (a[i]'hia).n, .int .i64 (a[i]'hia).place]).others hk2 (by omega) (by decide)
        have c1 := hL2.cell 1
        simp at c1
        go_wp2_with fail
        refine (string_any w.heap.size w.heap.size _ (a[i]'hia).text _ hI2 (by simp; omega) (by omega)).mono ?_
        rintro e w3 ⟨rfl, hI3, hb3, _⟩
        go_wp2_with fail
        go_roundw
        case rel =>
          refine ⟨i + 1, by omega, by go_num, ?_, ((hbw.alloc hbs _).trans hb2).trans hb3⟩
          rw [HS.out]
          simpa using hI3
        case measure => simp [intOf]; omega
      · obtain rfl : i = 0 := by omega
        simp only [Nat.zero_mul, Nat.add_zero] at d0 d1 d2 d3
        have HS := Lib.hid (textS_one a hia)
        rw [Nat.zero_add, HS.out] at hm2
        have hI0 := bld_alloc hI (.cells #[.int .i64 (a[0]'hia).kind, .string ⟨(a[0]'hia).text.toArray⟩, .int .i64 (a[0]'hia).n, .int .i64 (a[0]'hia).place] 48)
        go_wp2_with fail
        refine (string_any w.heap.size w.heap.size _ (a[0]'hia).text _ hI0 (by simp [textS]; omega) (by simp; omega)).mono ?_
        rintro e w3 ⟨rfl, hI3, hb3, _⟩
        go_wp2_with fail
        go_roundw
        case rel =>
          refine ⟨1, by omega, by go_num, ?_, (hbw.alloc hbs _).trans hb3⟩
          rw [HS.out]
          simpa [textS] using hI3
        case measure => simp [intOf]; omega
    · go_wp2_with fail
      refine (Tryd.Builder_String_any_k w.heap.size w.heap.size (textS (a.take i)) _ (Lib.IsBuilderF.of hI) hbs).mono ?_
      rintro e w2 ⟨rfl, _, hb2, _⟩
      go_wp2_with fail
      go_ret
      rw [List.take_of_length_le (by omega)]
      exact ⟨rfl, hbw.trans hb2⟩
end Lx
end Go.Proofs.YtnljlocogfacfaaDoor
