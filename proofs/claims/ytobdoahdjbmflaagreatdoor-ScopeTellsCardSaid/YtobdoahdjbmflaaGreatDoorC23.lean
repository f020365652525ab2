/-
  Texts that lie one behind the other: ScYb ScYd ScYc.
-/
import Derived.Test.YtobdoahdjbmflaaGreatDoorC22
import Derived.Test.YtobdoahdjbmflaaGreatDoorC4
import Derived.Test.YtobdoahdjbmflaaGreatDoorC15
import Derived.Test.YtobdoahdjbmflaaGreatDoorC11
import Derived.Test.YtobdoahdjbmflaaGreatDoorC12
import Derived.Test.YtobdoahdjbmflaaGreatDoorC1
import Derived.Test.YtobdoahdjbmflaaGreatDoorC14
import Derived.Deep.Cut
import Derived.Deep.RegionHeld3
import Derived.Deep.DrawnRows
namespace Go.Proofs.YtobdoahdjbmflaaGreatDoor
open Go Go.RowKit
attribute [local go_sem] Oper.semAt_some
namespace Lx
set_option maxRecDepth 100000
/-- Strings are held against one another by their bytes. -/
theorem less_is : ∀ a b : List UInt8, Op.bytesLess a b = decide (a < b)
  | [], [] => by rw [Op.bytesLess]; simp
  | [], _ :: _ => by rw [Op.bytesLess]; simp
  | _ :: _, [] => by rw [Op.bytesLess]; simp
  | a :: r, b :: t => by
    rw [Op.bytesLess, less_is r t, Bool.eq_iff_iff]
    simp only [decide_eq_true_eq, List.cons_lt_cons_iff, Bool.or_eq_true, Bool.and_eq_true, beq_iff_eq]
theorem less_leN (s x : ByteArray) : Op.bytesLess x.toList s.toList = !leN s x := by
  have e : ∀ Z : ByteArray, Z.toList = Z.data.toList := fun Z => by obtain ⟨d⟩ := Z; obtain ⟨l⟩ := d; exact ByteArray.toList_mk l
  rw [less_is, e, e, leN, ← decide_not]
  congr 1
  rw [eq_iff_iff, List.not_le]
theorem cellsS_snoc1 (l : List ByteArray) (s : ByteArray) : cellsS l ++ [.string s] = cellsS (l ++ [s]) := by simp [cellsS]
set_option maxHeartbeats 8000000 in
theorem sorted5_any (l : List ByteArray) (s : ByteArray) (A : Option Addr) (m c : Nat) (w : World) (hm : m = l.length) (hm2 : m ≤ 50000) (hI : SIn w Any l A) :
    Calls Tryz.prog 53 #[.slice A m c, .string s] w (SGive (insN s l) w) := by
  have HI := Lib.hid hI
  have HM := Lib.hid hm
  clear hI hm
  obtain ⟨i0, hi0, hz0, hz1, hz2⟩ := info_parts infoS
  have hown0 : (w.alloc (.cells #[] 9)).ownsRow w.heap.size 9 1 (.slice (some ⟨w.heap.size, 0, none⟩) 0 0) 0 [] := World.ownsRow_made w #[] 0 (Nat.le_refl _) (by simp [maxLen]) rfl
  have hb0 : Below w.heap.size w (w.alloc (.cells #[] 9)) := (Below.refl _ w).alloc (Nat.le_refl _) _
  have HFIN : Hid (∀ (V : World) (v : Value) (n : Nat) (o : List ByteArray), V.ownsRow w.heap.size 9 1 v n (cellsS o) → o = insN s l → n = o.length → Below w.heap.size w V → SGive (insN s l) w (.returned v) V) := Lib.hid fun V v n o ho hx hn hb => by
    obtain ⟨A1, c1, rfl⟩ := own_slice ho
    subst hn
    rw [← hx]
    exact ⟨A1, c1, rfl, (SIn.owned ho).any, own_some ho, hb⟩
  go_enter Tryz.func53, Tryz.ntmps53
  go_wp2_with fail
  go_loopw [5, 6, 7] (fun v lb x wr => ∃ (i n : Nat) (o : List ByteArray) (q : Bool), i ≤ m ∧ lb = .bool q ∧ x = .int .i64 i ∧ Hid ((l.take i).foldl (stepN s) ([], false) = (o, q)) ∧ Hid (n = o.length) ∧ n ≤ 2 * i ∧ wr.ownsRow w.heap.size 9 1 v n (cellsS o) ∧ Below w.heap.size w wr) (fun _ _ x _ => m - (intOf x).toNat)
  case atStart => exact ⟨0, 0, [], false, by omega, rfl, rfl, Lib.hid rfl, Lib.hid rfl, by omega, hown0, hb0⟩
  case round =>
    obtain ⟨i, n, o, q, hi, rfl, rfl, HQ, HN, hn2, hown, hb⟩ := hrel
    clear hown0 hb0
    have hbs := hb.size
    obtain ⟨A1, c1, rfl⟩ := own_slice hown
    by_cases hlt : i < m
    · have hia : i < l.length := by have := HM.out; omega
      obtain ⟨g, o9, rfl, _, d0⟩ := (HI.out.below hb (Nat.le_refl _)) i hia
      have HTK : Hid ((l.take (i + 1)).foldl (stepN s) ([], false) = stepN s (o, q) (l[i]'hia)) := Lib.hid (by rw [List.take_succ_eq_append_getElem hia, List.foldl_append, HQ.out]; rfl)
      have HXL : Hid (∀ V, Below w.heap.size w V → V.cell? ⟨g, o9 + i, none⟩ = some (.string (l[i]'hia))) := Lib.hid fun V hV => by
        obtain ⟨g', o', he, _, h⟩ := (HI.out.below hV (Nat.le_refl _)) i hia
        injection he with he
        injection he with e1 e2 e3
        subst e1 e2
        exact h
      obtain ⟨x, hx⟩ : ∃ x, x = l[i]'hia := ⟨_, rfl⟩
      rw [← hx] at d0 HTK HXL
      clear hx hia
      have hlq := less_leN s x
      clear d0
      cases q with
      | true =>
        have d0 := HXL.out _ hb
        have hbs1 := hb.size
        by_cases hxs : x = s
        · skip
          have h1 : (x.toList == s.toList) = true := by rw [hxs]; exact BEq.rfl
          have h2 : (x.toList != s.toList) = false := by rw [bne, h1]; rfl
          have HST : Hid ((l.take (i + 1)).foldl (stepN s) ([], false) = (o, true)) := Lib.hid (by rw [HTK.out, stepN, if_pos hxs, List.append_nil]; simp)
          clear hxs HTK HXL
          go_wp2_with fail
          go_roundw
          case rel => exact ⟨i + 1, n, o, true, by omega, rfl, by go_num, HST, HN, by omega, hown, hb⟩
          case measure => simp [intOf]; omega
        · have h1 : (x.toList == s.toList) = false := by rw [ename_q, decide_eq_false hxs]
          have h2 : (x.toList != s.toList) = true := by rw [bne, h1]; rfl
          have HST : Hid ((l.take (i + 1)).foldl (stepN s) ([], false) = (o ++ [x], true)) := Lib.hid (by rw [HTK.out, stepN, if_neg hxs]; simp)
          clear hxs HTK HXL
          go_wp2_with (at_builtin; refine wpList_append_own _ rfl (.tmp 35) (.tmp 40) 31 rfl w.heap.size 9 i0 (.string ⟨#[]⟩) 1 16 Tryz.underlying31 hi0 hz0 hz1 hz2 rfl (by decide) _ _ _ rfl (hown.alloc _) ⟨wr.heap.size, 0, none⟩ 1 1 [.string x] rfl rfl ?c1 ?c2 ?c3 ?c4 ?c5 ?_)
          case c1 => exact new_cells _ 9 [.string x] _ rfl
          case c2 => intro u hu; simp at hu; subst hu; rfl
          case c3 => unfold maxLen; omega
          case c4 => omega
          case c5 => simp; omega
          intro v3 w3 hown3 hg3 _
          have hb3 : Below w.heap.size w w3 := ((hb.alloc hbs1 _).grown hg3 (by simp; omega) (fun k hk => (hown.lt k hk).1))
          rw [cellsS_snoc1] at hown3
          have HN3 : Hid (n + 1 = (o ++ [x]).length) := Lib.hid (by rw [List.length_append, ← HN.out]; rfl)
          clear hown hg3
          go_wp2_with fail
          go_roundw
          case rel => exact ⟨i + 1, n + 1, o ++ [x], true, by omega, rfl, by go_num, HST, HN3, by omega, hown3, hb3⟩
          case measure => simp [intOf]; omega
      | false =>
        cases hle : leN s x with
        | false =>
          rw [hle, Bool.not_false] at hlq
          have HLE := Lib.hid hle
          clear hle
          have d0 := HXL.out _ hb
          have hbs1 := hb.size
          by_cases hxs : x = s
          · skip
            have h1 : (x.toList == s.toList) = true := by rw [hxs]; exact BEq.rfl
            have h2 : (x.toList != s.toList) = false := by rw [bne, h1]; rfl
            have HST : Hid ((l.take (i + 1)).foldl (stepN s) ([], false) = (o, false)) := Lib.hid (by rw [HTK.out, stepN, if_pos hxs, List.append_nil]; simp [HLE.out])
            clear hxs HTK HXL
            go_wp2_with fail
            go_roundw
            case rel => exact ⟨i + 1, n, o, false, by omega, rfl, by go_num, HST, HN, by omega, hown, hb⟩
            case measure => simp [intOf]; omega
          · have h1 : (x.toList == s.toList) = false := by rw [ename_q, decide_eq_false hxs]
            have h2 : (x.toList != s.toList) = true := by rw [bne, h1]; rfl
            have HST : Hid ((l.take (i + 1)).foldl (stepN s) ([], false) = (o ++ [x], false)) := Lib.hid (by rw [HTK.out, stepN, if_neg hxs]; simp [HLE.out])
            clear hxs HTK HXL
            go_wp2_with (at_builtin; refine wpList_append_own _ rfl (.tmp 35) (.tmp 40) 31 rfl w.heap.size 9 i0 (.string ⟨#[]⟩) 1 16 Tryz.underlying31 hi0 hz0 hz1 hz2 rfl (by decide) _ _ _ rfl (hown.alloc _) ⟨wr.heap.size, 0, none⟩ 1 1 [.string x] rfl rfl ?c1 ?c2 ?c3 ?c4 ?c5 ?_)
            case c1 => exact new_cells _ 9 [.string x] _ rfl
            case c2 => intro u hu; simp at hu; subst hu; rfl
            case c3 => unfold maxLen; omega
            case c4 => omega
            case c5 => simp; omega
            intro v3 w3 hown3 hg3 _
            have hb3 : Below w.heap.size w w3 := ((hb.alloc hbs1 _).grown hg3 (by simp; omega) (fun k hk => (hown.lt k hk).1))
            rw [cellsS_snoc1] at hown3
            have HN3 : Hid (n + 1 = (o ++ [x]).length) := Lib.hid (by rw [List.length_append, ← HN.out]; rfl)
            clear hown hg3
            go_wp2_with fail
            go_roundw
            case rel => exact ⟨i + 1, n + 1, o ++ [x], false, by omega, rfl, by go_num, HST, HN3, by omega, hown3, hb3⟩
            case measure => simp [intOf]; omega
        | true =>
          rw [hle, Bool.not_true] at hlq
          have HLE := Lib.hid hle
          clear hle
          have d0 := HXL.out _ hb
          go_wp2_with (at_builtin; refine wpList_append_own _ rfl (.tmp 25) (.tmp 27) 31 rfl w.heap.size 9 i0 (.string ⟨#[]⟩) 1 16 Tryz.underlying31 hi0 hz0 hz1 hz2 rfl (by decide) _ _ _ rfl (hown.alloc _) ⟨wr.heap.size, 0, none⟩ 1 1 [.string s] rfl rfl ?c1 ?c2 ?c3 ?c4 ?c5 ?_)
          case c1 => exact new_cells _ 9 [.string s] _ rfl
          case c2 => intro u hu; simp at hu; subst hu; rfl
          case c3 => unfold maxLen; omega
          case c4 => omega
          case c5 => simp; omega
          intro v2 w2 hown2 hg2 _
          have hb2 : Below w.heap.size w w2 := ((hb.alloc hbs _).grown hg2 (by simp; omega) (fun k hk => (hown.lt k hk).1))
          rw [cellsS_snoc1] at hown2
          have HN2 : Hid (n + 1 = (o ++ [s]).length) := Lib.hid (by rw [List.length_append, ← HN.out]; rfl)
          obtain ⟨A2, c2, rfl⟩ := own_slice hown2
          clear hown hg2 d0
          have d0 := HXL.out _ hb2
          have hbs1 := hb2.size
          by_cases hxs : x = s
          · skip
            have h1 : (x.toList == s.toList) = true := by rw [hxs]; exact BEq.rfl
            have h2 : (x.toList != s.toList) = false := by rw [bne, h1]; rfl
            have HST : Hid ((l.take (i + 1)).foldl (stepN s) ([], false) = (o ++ [s], true)) := Lib.hid (by rw [HTK.out, stepN, if_pos hxs, List.append_nil]; simp [HLE.out])
            clear hxs HTK HXL
            go_wp2_with fail
            go_roundw
            case rel => exact ⟨i + 1, n + 1, o ++ [s], true, by omega, rfl, by go_num, HST, HN2, by omega, hown2, hb2⟩
            case measure => simp [intOf]; omega
          · have h1 : (x.toList == s.toList) = false := by rw [ename_q, decide_eq_false hxs]
            have h2 : (x.toList != s.toList) = true := by rw [bne, h1]; rfl
            have HST : Hid ((l.take (i + 1)).foldl (stepN s) ([], false) = (o ++ [s] ++ [x], true)) := Lib.hid (by rw [HTK.out, stepN, if_neg hxs]; simp [HLE.out])
            clear hxs HTK HXL
            go_wp2_with (at_builtin; refine wpList_append_own _ rfl (.tmp 35) (.tmp 40) 31 rfl w.heap.size 9 i0 (.string ⟨#[]⟩) 1 16 Tryz.underlying31 hi0 hz0 hz1 hz2 rfl (by decide) _ _ _ rfl (hown2.alloc _) ⟨w2.heap.size, 0, none⟩ 1 1 [.string x] rfl rfl ?c1 ?c2 ?c3 ?c4 ?c5 ?_)
            case c1 => exact new_cells _ 9 [.string x] _ rfl
            case c2 => intro u hu; simp at hu; subst hu; rfl
            case c3 => unfold maxLen; omega
            case c4 => omega
            case c5 => simp; omega
            intro v3 w3 hown3 hg3 _
            have hb3 : Below w.heap.size w w3 := ((hb2.alloc hbs1 _).grown hg3 (by simp; omega) (fun k hk => (hown2.lt k hk).1))
            rw [cellsS_snoc1] at hown3
            have HN3 : Hid (n + 1 + 1 = (o ++ [s] ++ [x]).length) := Lib.hid (by rw [List.length_append, ← HN2.out]; rfl)
            clear hown2 hg3
            go_wp2_with fail
            go_roundw
            case rel => exact ⟨i + 1, n + 1 + 1, o ++ [s] ++ [x], true, by omega, rfl, by go_num, HST, HN3, by omega, hown3, hb3⟩
            case measure => simp [intOf]; omega
    · obtain rfl : i = m := by omega
      have HEN : Hid (endN s (o, q) = insN s l) := Lib.hid (by
        have h1 := HQ.out
        rw [List.take_of_length_le (by have := HM.out; omega)] at h1
        rw [← h1]
        have := step_end s l []
        simpa using this)
      cases q with
      | true =>
        go_wp2_with fail
        go_ret
        exact HFIN.out _ _ _ _ hown HEN.out HN.out hb
      | false =>
        have HEN2 : Hid (o ++ [s] = insN s l) := HEN
        have HN2 : Hid (n + 1 = (o ++ [s]).length) := Lib.hid (by rw [List.length_append, ← HN.out]; rfl)
        go_wp2_with (at_builtin; refine wpList_append_own _ rfl (.tmp 44) (.tmp 46) 31 rfl w.heap.size 9 i0 (.string ⟨#[]⟩) 1 16 Tryz.underlying31 hi0 hz0 hz1 hz2 rfl (by decide) _ _ _ rfl (hown.alloc _) ⟨wr.heap.size, 0, none⟩ 1 1 [.string s] rfl rfl ?c1 ?c2 ?c3 ?c4 ?c5 ?_)
        case c1 => exact new_cells _ 9 [.string s] _ rfl
        case c2 => intro u hu; simp at hu; subst hu; rfl
        case c3 => unfold maxLen; omega
        case c4 => omega
        case c5 => simp; omega
        intro v2 w2 hown2 hg2 _
        have hb2 : Below w.heap.size w w2 := ((hb.alloc hbs _).grown hg2 (by simp; omega) (fun k hk => (hown.lt k hk).1))
        rw [cellsS_snoc1] at hown2
        clear hown hg2
        go_wp2_with fail
        go_ret
        exact HFIN.out _ _ _ _ hown2 HEN2.out HN2.out hb2
end Lx
end Go.Proofs.YtobdoahdjbmflaaGreatDoor
namespace Go.Proofs.YtobdoahdjbmflaaGreatDoor
open Go Go.RowKit
attribute [local go_sem] Oper.semAt_some
namespace Lx
set_option maxRecDepth 100000
/-- Names lie from A on; where there is no place there is no room. -/
def NIn (w : World) (l : List ByteArray) (A : Option Addr) (c : Nat) : Prop := SIn w Any l A ∧ (A = none → c = 0)
theorem NIn.below {w w' : World} {l : List ByteArray} {A : Option Addr} {c B : Nat} (h : NIn w l A c) (hb : Below B w w') (hB : w.heap.size ≤ B) : NIn w' l A c := ⟨h.1.below hb hB, h.2⟩
theorem looseL_skip (k n : Int) (s : ByteArray) (l : List Tr) (b : List ByteArray) (j : Nat) (h : j ≤ fromN k n) (hl : fromN k n ≤ l.length) : looseL k n s l b j (l.drop j) = looseL k n s l b (fromN k n) (l.drop (fromN k n)) := by
  obtain ⟨d, hd⟩ : ∃ d, fromN k n = j + d := ⟨fromN k n - j, by omega⟩
  induction d generalizing j with
  | zero => rw [show fromN k n = j from by omega]
  | succ d ih =>
    have hj : j < l.length := by omega
    rw [List.drop_eq_getElem_cons hj, looseL, if_pos (by omega), List.nil_append]
    exact ih (j + 1) (by omega) (by omega)
theorem LIn.belowS (l : List Tr) {w w' : World} {A : Option Addr} {i : Nat} (h : LIn w Any l A i) (hb : Below w.heap.size w w') : LIn w' Any l A i := LIn.keep l h fun g j _ h => ⟨hb.cell (p := ⟨g, j, none⟩) h, trivial⟩
theorem LIn.atS (l : List Tr) {w : World} {X : Nat → Prop} {A : Option Addr} (h : LIn w X l A 0) (i : Nat) (hi : i < l.length) :
    ∃ g o A' c, (A = some ⟨g, o, none⟩ ∧ X g) ∧ w.cell? ⟨g, o + i * 5, none⟩ = some (.int .i64 (l[i]'hi).kind) ∧ w.cell? ⟨g, o + i * 5 + 1, none⟩ = some (.string (l[i]'hi).name) ∧
      w.cell? ⟨g, o + i * 5 + 2, none⟩ = some (.int .i64 (l[i]'hi).n) ∧ w.cell? ⟨g, o + i * 5 + 3, none⟩ = some (.int .i64 (l[i]'hi).place) ∧
      w.cell? ⟨g, o + i * 5 + 4, none⟩ = some (.slice A' (l[i]'hi).parts.length (capF (l[i]'hi).parts.length c)) ∧ TIn w X (l[i]'hi) A' := by
  have := LIn.at_ l h i hi
  simpa only [Nat.zero_add] using this
theorem loose_size : ∀ (t : Tr) (b : List ByteArray), (looseT b t).length ≤ sizeT t := fun t b => by
  rw [← frees_spots t b false, freesS, List.length_map]
  exact Nat.le_trans (List.length_filter_le _ _) (lenS t b false)
set_option maxHeartbeats 16000000 in
theorem free5r_any (d : Nat) : ∀ (t : Tr) (A : Option Addr) (c : Nat) (b o : List ByteArray) (Ab : Option Addr) (cb : Nat) (Ao : Option Addr) (co : Nat) (w : World), depthT t ≤ d → okT t → b.length + 9 * d ≤ 70000 → o.length + sizeT t ≤ 50000 → TIn w Any t A → NIn w b Ab cb → NIn w o Ao co →
    Calls Tryz.prog 33 #[tv t A c, .slice Ab b.length cb, .slice Ao o.length co] w (SGive (insAll o (looseT b t)) w) := by
  induction d with
  | zero => intro t A c b o Ab cb Ao co w h; cases t; rw [depthT] at h; omega
  | succ d ih =>
    intro t A c b o Ab cb Ao co w hd hok hbl hsz hI hB hO
    obtain ⟨k, s, n, a, l⟩ := t
    have hdL : depthL l ≤ d := by rw [depthT] at hd; omega
    have hsz2 : o.length + sizeL l + 1 ≤ 50000 := by rw [sizeT] at hsz; omega
    rw [okT] at hok
    rw [TIn] at hI
    have HI := Lib.hid hI.2.2
    have HOK := Lib.hid hok.2
    have hn8 : k = 8 → 0 ≤ n := fun e => (hok.1.1 e).1
    have h9 : l.length ≤ 9 := hok.1.2.2.2.2.2.2
    have HFM0 : fromN k n ≤ l.length := by
      rw [fromN]
      split
      · rename_i h; have := hok.1.1 h; omega
      · omega
    have h8m : k = 8 → 0 ≤ n ∧ n ≤ (l.length : Int) := fun e => by have := hok.1.1 e; omega
    have HSK : Hid (looseL k n s l b 0 l = looseL k n s l b (fromN k n) (l.drop (fromN k n))) := Lib.hid (by have := looseL_skip k n s l b 0 (by omega) HFM0; simpa using this)
    obtain ⟨RES, hRES⟩ : ∃ z, z = insAll o (looseT b (.node k s n a l)) := ⟨_, rfl⟩
    rw [← hRES]
    have HRES : Hid (RES = insAll (if k = 1 ∧ inN b s = false then insN s o else o) (looseL k n s l b 0 l)) := Lib.hid (by
      rw [hRES, looseT, insAll_app]
      congr 1
      split <;> rfl)
    clear hRES
    show Calls Tryz.prog 33 #[.agg #[.int .i64 k, .string s, .int .i64 n, .int .i64 a, .slice A l.length (capF l.length c)], .slice Ab b.length cb, .slice Ao o.length co] w _
    generalize capF l.length c = c
    obtain ⟨m, hm⟩ : ∃ m, m = l.length := ⟨_, rfl⟩
    obtain ⟨mb, hmb⟩ : ∃ m, m = b.length := ⟨_, rfl⟩
    obtain ⟨mo, hmo⟩ : ∃ m, m = o.length := ⟨_, rfl⟩
    rw [← hm] at h8m ⊢
    rw [← hmb, ← hmo]
    have hm9 : m ≤ 9 := by omega
    have hmb9 : mb + 9 * (d + 1) ≤ 70000 := by omega
    have hmo9 : mo + sizeL l + 1 ≤ 50000 := by omega
    have HM := Lib.hid hm
    have HMB := Lib.hid hmb
    have HMO := Lib.hid hmo
    have HFM : Hid (fromN k n ≤ m) := Lib.hid (by omega)
    have HB := Lib.hid hB
    have HO := Lib.hid hO
    have HIH := Lib.hid ih
    have hb0 : Below w.heap.size w (w.alloc (.cells #[.int .i64 k, .string s, .int .i64 n, .int .i64 a, .slice A m c] 24)) := (Below.refl _ w).alloc (Nat.le_refl _) _
    have L0 := Lies.new w 24 #[.int .i64 k, .string s, .int .i64 n, .int .i64 a, .slice A m c]
    clear hm hmb hmo hd hok hI hB hO hbl hsz HFM0 h9 ih
    go_enter Tryz.func33, Tryz.ntmps33
    go_upto_region 1 with fail
    obtain ⟨W0, hW0⟩ : ∃ W, W = w.alloc (.cells #[.int .i64 k, .string s, .int .i64 n, .int .i64 a, .slice A m c] 24) := ⟨_, rfl⟩
    obtain ⟨g0, hg0⟩ : ∃ g, g = w.heap.size := ⟨_, rfl⟩
    rw [← hW0] at hb0 L0 ⊢
    rw [← hg0] at L0 ⊢
    have HB0 := Lib.hid hb0
    clear hW0 hg0 hb0
    obtain ⟨⟨x0, x1, x2, x3, x4⟩, _⟩ := L0.five
    go_cut [17] from 8 (fun v wx => ∃ bb : Bool, v = .bool bb ∧ Hid (bb = true ↔ (k = 1 ∧ inN b s = false)) ∧ Lies wx g0 24 #[.int .i64 k, .string s, .int .i64 n, .int .i64 a, .slice A m c] ∧ Hid (Below w.heap.size w wx))
    case first =>
      by_cases hk : k = 1
      · have e1 : (k == 1) = true := by simpa using hk
        have HK := Lib.hid hk
        clear hk
        have HIA := Lib.hid (in5_any b s Ab mb cb W0 HMB.out (by omega) (HB.out.below HB0.out (Nat.le_refl _)).1)
        obtain ⟨ib, hib⟩ : ∃ z, z = inN b s := ⟨_, rfl⟩
        rw [← hib] at HIA
        have HIB := Lib.hid hib
        clear hib
        go_wp2_with fail
        refine HIA.out.mono ?_
        rintro e w4 ⟨rfl, hb4⟩
        have HB4 := Lib.hid (HB0.out.trans (hb4.mono HB0.out.size))
        have L4 := L0.below hb4 L0.lt
        clear x0 x1 x2 x3 x4 hb4 HIA
        go_wp2_with fail
        go_meet
        exact ⟨!ib, rfl, Lib.hid (by rw [← HIB.out]; simp [HK.out]), L4, HB4⟩
      · have e1 : (k == 1) = false := by simpa using hk
        have HK := Lib.hid hk
        clear hk
        go_wp2_with fail
        go_meet
        exact ⟨false, rfl, Lib.hid (by simp [HK.out]), L0, HB0⟩
    case rest =>
    clear x0 x1 x2 x3 x4 L0 HB0
    obtain ⟨bb, rfl, HBB, L0, HB0⟩ := hcut
    go_upto_if 17 with fail
    go_cut [2] from 18 (fun v wx => ∃ (o1 : List ByteArray) (A1 : Option Addr) (m1 c1 : Nat), v = .slice A1 m1 c1 ∧ Hid (m1 = o1.length) ∧ NIn wx o1 A1 c1 ∧ m1 ≤ mo + 1 ∧ Hid (RES = insAll o1 (looseL k n s l b 0 l)) ∧ Lies wx g0 24 #[.int .i64 k, .string s, .int .i64 n, .int .i64 a, .slice A m c] ∧ Hid (Below w.heap.size w wx))
    case first =>
      obtain ⟨⟨x0, x1, x2, x3, x4⟩, _⟩ := L0.five
      cases bb with
      | true =>
        have HSO := Lib.hid (sorted5_any o s Ao mo co wc HMO.out (by omega) (HO.out.below HB0.out (Nat.le_refl _)).1)
        go_wp2_with fail
        refine HSO.out.mono ?_
        rintro e w5 ⟨A5, c5, rfl, h5, h5n, hb5⟩
        have HB5 := Lib.hid (HB0.out.trans (hb5.mono HB0.out.size))
        have L5 := L0.below hb5 L0.lt
        have hlen : (insN s o).length ≤ mo + 1 := by have := ins_len s o; have := HMO.out; omega
        clear x0 x1 x2 x3 x4 hb5 HSO
        go_wp2_with fail
        go_meet
        exact ⟨insN s o, A5, _, c5, rfl, Lib.hid rfl, ⟨h5, h5n⟩, hlen, Lib.hid (by rw [HRES.out, if_pos (HBB.out.1 (by simp))]), L5, HB5⟩
      | false =>
        go_wp2_with fail
        go_meet
        exact ⟨o, Ao, mo, co, rfl, HMO, HO.out.below HB0.out (Nat.le_refl _), by omega, Lib.hid (by rw [HRES.out, if_neg (fun h => by have := HBB.out.2 h; simp at this)]), L0, HB0⟩
    case rest =>
      clear L0 HB0 HRES HBB
      obtain ⟨o1, A1, m1, c1, rfl, HM1, hn1, hm1, HRES, L1, HB1⟩ := hcut
      obtain ⟨⟨x0, x1, x2, x3, x4⟩, _⟩ := L1.five
      go_wp2_with fail
      refine (from5_any k n a s A m c _ hn8).mono ?_
      rintro e w2 ⟨rfl, hb2⟩
      have HB2 := Lib.hid (HB1.out.trans (hb2.mono HB1.out.size))
      have L2 := L1.below hb2 L1.lt
      have hn2 := hn1.below hb2 (Nat.le_refl _)
      obtain ⟨fr, hfr⟩ : ∃ fr, fr = fromN k n := ⟨_, rfl⟩
      have HFR := Lib.hid hfr
      have hfm : fr ≤ m := by rw [hfr]; exact HFM.out
      have HR0 : Hid (RES = insAll o1 (looseL k n s l b fr (l.drop fr))) := Lib.hid (by rw [hfr, ← HSK.out, HRES.out])
      rw [← hfr]
      have hszd : sizeL (l.drop fr) ≤ sizeL l := sizeL_drop_le l fr
      clear x0 x1 x2 x3 x4 hfr hb2 L1 HB1 hn1 HRES
      go_wp2_with fail
      go_loopw [2, 7] (fun v x wr => ∃ (i : Nat) (o2 : List ByteArray) (A2 : Option Addr) (m2 c2 : Nat), i ≤ m ∧ v = .slice A2 m2 c2 ∧ x = .int .i64 i ∧ fr ≤ i ∧ Hid (m2 = o2.length) ∧ NIn wr o2 A2 c2 ∧ m2 + sizeL (l.drop i) ≤ 50000 ∧ Hid (RES = insAll o2 (looseL k n s l b i (l.drop i))) ∧ Lies wr g0 24 #[.int .i64 k, .string s, .int .i64 n, .int .i64 a, .slice A m c] ∧ Hid (Below w.heap.size w wr)) (fun _ x _ => m - (intOf x).toNat)
      case atStart => exact ⟨fr, o1, A1, m1, c1, hfm, rfl, rfl, Nat.le_refl _, HM1, hn2, by omega, HR0, L2, HB2⟩
      case round =>
        clear L2 HB2 hn2 HR0 HM1
        obtain ⟨i, o2, A2, m2, c2, hi, rfl, rfl, hfi, HM2, hn2, hz2, HR2, L2, HB2⟩ := hrel
        by_cases hlt : i < m
        · have hit : i < l.length := by have := HM.out; omega
          have HLr := LIn.belowS l HI.out HB2.out
          obtain ⟨g, o9, A', c', ⟨rfl, _⟩, d0, d1, d2, d3, d4, dt⟩ := LIn.atS l HLr i hit
          have HSZ := Lib.hid (sizeL_drop l i hit)
          have HDR := Lib.hid (List.drop_eq_getElem_cons hit)
          have HDP := Lib.hid (Nat.le_trans (depthL_mem l (l[i]'hit) (List.getElem_mem hit)) hdL)
          have HOP := Lib.hid (okL_mem l (l[i]'hit) (List.getElem_mem hit) HOK.out)
          obtain ⟨p, hp⟩ : ∃ p, p = l[i]'hit := ⟨_, rfl⟩
          rw [← hp] at d0 d1 d2 d3 d4 dt HSZ HDR HDP HOP
          clear hp hit HLr
          obtain ⟨bi, hbi⟩ : ∃ z, z = innerN k n s i l b := ⟨_, rfl⟩
          have hbl9 : bi.length ≤ mb + 9 := by rw [hbi, HMB.out]; exact innerN_len k n s i l b (by have := HM.out; omega) hn8 (fun e => by have := h8m e; have := HM.out; omega)
          obtain ⟨mi, hmi⟩ : ∃ z, z = bi.length := ⟨_, rfl⟩
          have HMI := Lib.hid hmi
          obtain ⟨o3, ho3⟩ : ∃ z, z = insAll o2 (looseT bi p) := ⟨_, rfl⟩
          have hl3 : o3.length ≤ m2 + sizeT p := by
            rw [ho3]
            have h1 := insAll_len (looseT bi p) o2
            have h2 := loose_size p bi
            have := HM2.out
            omega
          obtain ⟨m3, hm3⟩ : ∃ z, z = o3.length := ⟨_, rfl⟩
          have HM3 := Lib.hid hm3
          have HR3 : Hid (RES = insAll o3 (looseL k n s l b (i + 1) (l.drop (i + 1)))) := Lib.hid (by rw [HR2.out, HDR.out, looseL, if_neg (by rw [← HFR.out]; omega), insAll_app, ho3, hbi])
          have hz3 : m3 + sizeL (l.drop (i + 1)) ≤ 50000 := by have := HSZ.out; omega
          have HWI : Hid (∀ X, Below wr.heap.size wr X → Calls Tryz.prog 48 #[.agg #[.int .i64 k, .string s, .int .i64 n, .int .i64 a, .slice (some ⟨g, o9, none⟩) m c], .int .i64 i, .slice Ab mb cb] X (fun e w' => ∃ E x, e = .returned (.slice E mi x) ∧ NIn w' bi E x ∧ Below X.heap.size X w')) := Lib.hid fun X hX => by
            have h := within5_any k n a s l (some ⟨g, o9, none⟩) m c i b Ab mb cb X HM.out (by omega) h8m HMB.out (by omega) (LIn.belowS l HI.out (HB2.out.trans (hX.mono HB2.out.size))) (HB.out.below (HB2.out.trans (hX.mono HB2.out.size)) (Nat.le_refl _)).1 HB.out.2
            rw [← hbi] at h
            refine h.mono fun e w' h => ?_
            obtain ⟨E, x, he, hs, hn, hb⟩ := h
            rw [← hmi] at he
            exact ⟨E, x, he, ⟨hs, hn⟩, hb⟩
          have HCH0 : Hid (∀ X, Below wr.heap.size wr X → ∀ (E G : Option Addr) (x y : Nat), NIn X bi E x → NIn X o2 G y → Calls Tryz.prog 33 #[tv p A' c', .slice E mi x, .slice G m2 y] X (fun e w' => ∃ D z, e = .returned (.slice D m3 z) ∧ NIn w' o3 D z ∧ Below X.heap.size X w')) := Lib.hid fun X hX E G x y h1 h2 => by
            have h := HIH.out p A' c' bi o2 E x G y X HDP.out HOP.out (by omega) (by have := HM2.out; have := HSZ.out; omega) (TIn.below _ dt hX (Nat.le_refl _)) h1 h2
            rw [← hmi, ← HM2.out, ← ho3] at h
            refine h.mono fun e w' h => ?_
            obtain ⟨D, z, he, hs, hn, hb⟩ := h
            rw [← hm3] at he
            exact ⟨D, z, he, ⟨hs, hn⟩, hb⟩
          obtain ⟨tk, ts, tn, ta, tl⟩ := p
          simp only [tv, Tr.kind, Tr.name, Tr.n, Tr.place, Tr.parts] at HCH0 d0 d1 d2 d3 d4
          obtain ⟨tm, htm⟩ : ∃ z, z = tl.length := ⟨_, rfl⟩
          rw [← htm] at HCH0 d4
          obtain ⟨tc, htc⟩ : ∃ z, z = capF tm c' := ⟨_, rfl⟩
          rw [← htc] at HCH0 d4
          have hgr : g < wr.heap.size := cell_lt d0
          clear hbi hmi ho3 hm3 dt htm htc hl3 hbl9 HSZ HDR HDP HOP
          obtain ⟨⟨x0, x1, x2, x3, x4⟩, _⟩ := L2.five
          go_upto_region 6 with fail
          clear x0 x1 x2 x3 x4
          have HSS : Hid (∀ V', Below wr.heap.size wr V' → (fun V' : World => (V'.cell? ⟨g0, 0, none⟩ = some (.int .i64 k) ∧ V'.cell? ⟨g0, 1, none⟩ = some (.string s) ∧ V'.cell? ⟨g0, 2, none⟩ = some (.int .i64 n) ∧ V'.cell? ⟨g0, 3, none⟩ = some (.int .i64 a) ∧ V'.cell? ⟨g0, 4, none⟩ = some (.slice (some ⟨g, o9, none⟩) m c) ∧ V'.cell? ⟨g, o9 + i * 5, none⟩ = some (.int .i64 tk) ∧ V'.cell? ⟨g, o9 + i * 5 + 1, none⟩ = some (.string ts) ∧ V'.cell? ⟨g, o9 + i * 5 + 2, none⟩ = some (.int .i64 tn) ∧ V'.cell? ⟨g, o9 + i * 5 + 3, none⟩ = some (.int .i64 ta) ∧ V'.cell? ⟨g, o9 + i * 5 + 4, none⟩ = some (.slice A' tm tc))) V') := Lib.hid fun V' h =>
            ⟨(h.cell (p := ⟨g0, 0, none⟩) L2.lt).trans (L2.cell 0), (h.cell (p := ⟨g0, 1, none⟩) L2.lt).trans (L2.cell 1), (h.cell (p := ⟨g0, 2, none⟩) L2.lt).trans (L2.cell 2), (h.cell (p := ⟨g0, 3, none⟩) L2.lt).trans (L2.cell 3), (h.cell (p := ⟨g0, 4, none⟩) L2.lt).trans (L2.cell 4), (h.cell (p := ⟨g, o9 + i * 5, none⟩) hgr).trans d0, (h.cell (p := ⟨g, o9 + i * 5 + 1, none⟩) hgr).trans d1, (h.cell (p := ⟨g, o9 + i * 5 + 2, none⟩) hgr).trans d2, (h.cell (p := ⟨g, o9 + i * 5 + 3, none⟩) hgr).trans d3, (h.cell (p := ⟨g, o9 + i * 5 + 4, none⟩) hgr).trans d4⟩
          have hlt1 : (i : Int) < (m : Int) := by omega
          have hlt0 : (0 : Int) ≤ (i : Int) := by omega
          have hb_1 : Below wr.heap.size wr wr := Below.refl _ _
          refine wp_region_held_drew (S := (fun V' : World => (V'.cell? ⟨g0, 0, none⟩ = some (.int .i64 k) ∧ V'.cell? ⟨g0, 1, none⟩ = some (.string s) ∧ V'.cell? ⟨g0, 2, none⟩ = some (.int .i64 n) ∧ V'.cell? ⟨g0, 3, none⟩ = some (.int .i64 a) ∧ V'.cell? ⟨g0, 4, none⟩ = some (.slice (some ⟨g, o9, none⟩) m c) ∧ V'.cell? ⟨g, o9 + i * 5, none⟩ = some (.int .i64 tk) ∧ V'.cell? ⟨g, o9 + i * 5 + 1, none⟩ = some (.string ts) ∧ V'.cell? ⟨g, o9 + i * 5 + 2, none⟩ = some (.int .i64 tn) ∧ V'.cell? ⟨g, o9 + i * 5 + 3, none⟩ = some (.int .i64 ta) ∧ V'.cell? ⟨g, o9 + i * 5 + 4, none⟩ = some (.slice A' tm tc)))) rfl (HSS.out _ hb_1.drew) (fun hSs => ?_)
          change wpAnyH _ _ _ _ _ 12 (Array.replicate 12 false) _ _
          refine wpAnyH_take (i := 0) (oi := ⟨some 31, _, _, _, _, _⟩) (v := .pointer (some ⟨g0, 4, none⟩)) rfl (by kernel_rfl) (by kernel_rfl) (by kernel_rfl) (fun _ _ _ h => h) (.inl ⟨by kernel_rfl, fun W hW => by first | (obtain ⟨z0, z1, z2, z3, z4, z5, z6, z7, z8, z9⟩ := hW; go_simp; done) | (obtain ⟨z0, z1, z2, z3, z4, z5, z6, z7, z8, z9⟩ := hW; go_simp; omega) | (obtain ⟨z0, z1, z2, z3, z4, z5, z6, z7, z8, z9⟩ := hW; go_simp; exact IntWalk.i64_in _ (by omega)) | (obtain ⟨z0, z1, z2, z3, z4, z5, z6, z7, z8, z9⟩ := hW; go_simp; simp [*]; done)⟩) hSs ?_
          try simp only [Act.put, List.setIfInBounds_toArray, List.set_cons_zero, List.set_cons_succ]
          refine wpAnyH_take (i := 1) (oi := ⟨some 32, _, _, _, _, _⟩) (v := .slice (some ⟨g, o9, none⟩) m c) rfl (by kernel_rfl) (by kernel_rfl) (by kernel_rfl) (fun _ _ _ h => h) (.inl ⟨by kernel_rfl, fun W hW => by first | (obtain ⟨z0, z1, z2, z3, z4, z5, z6, z7, z8, z9⟩ := hW; go_simp; done) | (obtain ⟨z0, z1, z2, z3, z4, z5, z6, z7, z8, z9⟩ := hW; go_simp; omega) | (obtain ⟨z0, z1, z2, z3, z4, z5, z6, z7, z8, z9⟩ := hW; go_simp; exact IntWalk.i64_in _ (by omega)) | (obtain ⟨z0, z1, z2, z3, z4, z5, z6, z7, z8, z9⟩ := hW; go_simp; simp [*]; done)⟩) hSs ?_
          try simp only [Act.put, List.setIfInBounds_toArray, List.set_cons_zero, List.set_cons_succ]
          refine wpAnyH_take (i := 2) (oi := ⟨some 33, _, _, _, _, _⟩) (v := .int .i64 (i : Int)) rfl (by kernel_rfl) (by kernel_rfl) (by kernel_rfl) (fun _ _ _ h => h) (.inl ⟨by kernel_rfl, fun W hW => by kernel_rfl⟩) hSs ?_
          try simp only [Act.put, List.setIfInBounds_toArray, List.set_cons_zero, List.set_cons_succ]
          refine wpAnyH_take (i := 3) (oi := ⟨some 34, _, _, _, _, _⟩) (v := .pointer (some ⟨g, o9 + i * 5, none⟩)) rfl (by kernel_rfl) (by kernel_rfl) (by kernel_rfl) (fun _ _ _ h => h) (.inl ⟨by kernel_rfl, fun W hW => by first | (obtain ⟨z0, z1, z2, z3, z4, z5, z6, z7, z8, z9⟩ := hW; go_simp; done) | (obtain ⟨z0, z1, z2, z3, z4, z5, z6, z7, z8, z9⟩ := hW; go_simp; omega) | (obtain ⟨z0, z1, z2, z3, z4, z5, z6, z7, z8, z9⟩ := hW; go_simp; exact IntWalk.i64_in _ (by omega)) | (obtain ⟨z0, z1, z2, z3, z4, z5, z6, z7, z8, z9⟩ := hW; go_simp; simp [*]; done)⟩) hSs ?_
          try simp only [Act.put, List.setIfInBounds_toArray, List.set_cons_zero, List.set_cons_succ]
          refine wpAnyH_take (i := 4) (oi := ⟨some 35, _, _, _, _, _⟩) (v := .agg #[.int .i64 tk, .string ts, .int .i64 tn, .int .i64 ta, .slice A' tm tc]) rfl (by kernel_rfl) (by kernel_rfl) (by kernel_rfl) (fun _ _ _ h => h) (.inl ⟨by kernel_rfl, fun W hW => by first | (obtain ⟨z0, z1, z2, z3, z4, z5, z6, z7, z8, z9⟩ := hW; go_simp; done) | (obtain ⟨z0, z1, z2, z3, z4, z5, z6, z7, z8, z9⟩ := hW; go_simp; omega) | (obtain ⟨z0, z1, z2, z3, z4, z5, z6, z7, z8, z9⟩ := hW; go_simp; exact IntWalk.i64_in _ (by omega)) | (obtain ⟨z0, z1, z2, z3, z4, z5, z6, z7, z8, z9⟩ := hW; go_simp; simp [*]; done)⟩) hSs ?_
          try simp only [Act.put, List.setIfInBounds_toArray, List.set_cons_zero, List.set_cons_succ]
          refine wpAnyH_take (i := 5) (oi := ⟨some 36, _, _, _, _, _⟩) (v := .agg #[.int .i64 k, .string s, .int .i64 n, .int .i64 a, .slice (some ⟨g, o9, none⟩) m c]) rfl (by kernel_rfl) (by kernel_rfl) (by kernel_rfl) (fun _ _ _ h => h) (.inl ⟨by kernel_rfl, fun W hW => by first | (obtain ⟨z0, z1, z2, z3, z4, z5, z6, z7, z8, z9⟩ := hW; go_simp; done) | (obtain ⟨z0, z1, z2, z3, z4, z5, z6, z7, z8, z9⟩ := hW; go_simp; omega) | (obtain ⟨z0, z1, z2, z3, z4, z5, z6, z7, z8, z9⟩ := hW; go_simp; exact IntWalk.i64_in _ (by omega)) | (obtain ⟨z0, z1, z2, z3, z4, z5, z6, z7, z8, z9⟩ := hW; go_simp; simp [*]; done)⟩) hSs ?_
          try simp only [Act.put, List.setIfInBounds_toArray, List.set_cons_zero, List.set_cons_succ]
          refine wpAnyH_take (i := 6) (oi := ⟨some 37, _, _, _, _, _⟩) (v := .int .i64 (i : Int)) rfl (by kernel_rfl) (by kernel_rfl) (by kernel_rfl) (fun _ _ _ h => h) (.inl ⟨by kernel_rfl, fun W hW => by kernel_rfl⟩) hSs ?_
          try simp only [Act.put, List.setIfInBounds_toArray, List.set_cons_zero, List.set_cons_succ]
          refine wpAnyH_take (i := 7) (oi := ⟨some 38, _, _, _, _, _⟩) (v := .slice Ab mb cb) rfl (by kernel_rfl) (by kernel_rfl) (by kernel_rfl) (fun _ _ _ h => h) (.inl ⟨by kernel_rfl, fun W hW => by kernel_rfl⟩) hSs ?_
          try simp only [Act.put, List.setIfInBounds_toArray, List.set_cons_zero, List.set_cons_succ]
          refine wpAnyH_take (i := 9) (oi := ⟨some 40, _, _, _, _, _⟩) (v := .slice A2 m2 c2) rfl (by kernel_rfl) (by kernel_rfl) (by kernel_rfl) (fun _ _ _ h => h) (.inl ⟨by kernel_rfl, fun W hW => by kernel_rfl⟩) hSs ?_
          try simp only [Act.put, List.setIfInBounds_toArray, List.set_cons_zero, List.set_cons_succ]
          refine wpAnyH_ready (rs := [8]) (by kernel_rfl) (by simp) (AllReadyH.cons rfl (fun K hK => ?_) AllReadyH.nil)
          go_simp
          refine (HWI.out _ (hb_1.drew)).mono ?_
          rintro e u_2 ⟨A_2, c_2, rfl, hR_2, hq_2⟩
          have hb_2 := (hb_1.drew).trans (hq_2.mono (hb_1.drew).size)
          have hn2_2 := (hn2.below (Below.refl _ _).drew (Nat.le_refl _)).below hq_2 (Nat.le_refl _)
          clear hn2
          refine hK.out _ _ (HSS.out _ hb_2) (fun hS_2 => ?_)
          clear hK K
          try simp only [Act.put, List.setIfInBounds_toArray, List.set_cons_zero, List.set_cons_succ]
          refine wpAnyH_ready (rs := [10]) (by kernel_rfl) (by simp) (AllReadyH.cons rfl (fun K hK => ?_) AllReadyH.nil)
          go_simp
          refine (HCH0.out _ hb_2 A_2 A2 c_2 c2 hR_2 hn2_2).mono ?_
          rintro e u_3 ⟨A_3, c_3, rfl, hR_3, hq_3⟩
          have hb_3 := hb_2.trans (hq_3.mono hb_2.size)
          have hn2_2_3 := hn2_2.below hq_3 (Nat.le_refl _)
          have hR_2_3 := hR_2.below hq_3 (Nat.le_refl _)
          clear hn2_2 hR_2
          refine hK.out _ _ (HSS.out _ hb_3) (fun hS_3 => ?_)
          clear hK K
          try simp only [Act.put, List.setIfInBounds_toArray, List.set_cons_zero, List.set_cons_succ]
          refine wpAnyH_take (i := 11) (oi := ⟨some 2, _, _, _, _, _⟩) (v := .slice A_3 m3 c_3) rfl (by kernel_rfl) (by kernel_rfl) (by kernel_rfl) (fun _ _ _ h => h) (.inl ⟨by kernel_rfl, fun W hW => by kernel_rfl⟩) hS_3 ?_
          try simp only [Act.put, List.setIfInBounds_toArray, List.set_cons_zero, List.set_cons_succ]
          refine wpAnyH_done (by kernel_rfl) ?_ _
          have hbz := hb_3
          have hr3 := hR_3
          have L3 := L2.below hbz L2.lt
          have HB3 := Lib.hid (HB2.out.trans (hbz.mono HB2.out.size))
          clear hbz L2 HB2
          go_wp2_with fail
          go_roundw
          case rel => exact ⟨i + 1, o3, A_3, m3, c_3, by omega, rfl, by go_num, by omega, HM3, hr3, hz3, HR3, L3, HB3⟩
          case measure => simp [intOf]; omega
        · obtain rfl : i = m := by omega
          have HFIN : Hid (RES = o2) := Lib.hid (by rw [HR2.out, List.drop_of_length_le (by have := HM.out; omega), looseL]; rfl)
          obtain ⟨⟨x0, x1, x2, x3, x4⟩, _⟩ := L2.five
          go_wp2_with fail
          go_ret
          rw [HFIN.out]
          exact ⟨A2, c2, by show Ending.returned (.slice A2 m2 c2) = _; rw [HM2.out], hn2.1, hn2.2, HB2.out⟩
end Lx
end Go.Proofs.YtobdoahdjbmflaaGreatDoor
namespace Go.Proofs.YtobdoahdjbmflaaGreatDoor
open Go Go.RowKit
namespace Lx
set_option maxRecDepth 100000
set_option maxHeartbeats 4000000 in
theorem rCheck_yes (t : Tr) (A : Option Addr) (c : Nat) (w : World) (hI : TIn w Any t A) (hm : mayV t = true) (hz : sizeT t ≤ 5000) (hd : depthT t ≤ 5000) :
    Calls Tryz.prog 10 #[tv t A c] w fun e w' => e = .returned (.tuple #[.int .i64 (badT (consT t) [] [] t).1, .int .i64 (badT (consT t) [] [] t).2]) ∧ Below w.heap.size w w' := by
  have hok := mayV_ok t hm
  have HM := Lib.hid (fun W (h : TIn W Any t A) => rMay_any t A c W h)
  rw [hm] at HM
  have hcl := onceN_cons_len t
  have HK := Lib.hid (fun W (h : TIn W Any t A) => rCons_ok t A c W h hm hz)
  have HC := Lib.hid (fun (Al : Option Addr) (cl : Nat) (W : World) (h : TIn W Any t A) (hA : AIn W Any (consT t) Al) => check5_any (consT t) Al (depthT t) t A c [] [] none 0 none 0 cl W (Nat.le_refl _) hok (by simp; omega) (by simp) h (SIn.nil _ _ _) (fun _ => rfl) (SIn.nil _ _ _) (by omega) hA)
  obtain ⟨bx, hbx⟩ : ∃ z, z = (badT (consT t) [] [] t).1 := ⟨_, rfl⟩
  obtain ⟨bz, hbz⟩ : ∃ z, z = (badT (consT t) [] [] t).2 := ⟨_, rfl⟩
  rw [← hbx, ← hbz] at HC ⊢
  obtain ⟨L, hL⟩ : ∃ L, L = consT t := ⟨_, rfl⟩
  rw [← hL] at HC HK hcl
  have HI := Lib.hid hI
  clear hI hm hz hok hL hbx hbz hd
  obtain ⟨k, s, n, a, l⟩ := t
  simp only [tv, Tr.kind, Tr.name, Tr.n, Tr.place, Tr.parts, List.length_nil] at HM HC HK
  show Calls Tryz.prog 10 #[.agg #[.int .i64 k, .string s, .int .i64 n, .int .i64 a, .slice A l.length (capF l.length c)]] w _
  generalize l.length = m at *
  generalize capF m c = c at *
  have hb0 : Below w.heap.size w (w.alloc (.cells #[.int .i64 k, .string s, .int .i64 n, .int .i64 a, .slice A m c] 24)) := (Below.refl _ w).alloc (Nat.le_refl _) _
  have hL0 := Lies.new w 24 #[.int .i64 k, .string s, .int .i64 n, .int .i64 a, .slice A m c]
  have HM2 := Lib.hid (HM.out _ (TIn.below _ HI.out hb0 (Nat.le_refl _)))
  go_enter Tryz.func10, Tryz.ntmps10
  go_wp2_with fail
  refine HM2.out.mono ?_
  rintro e w1 ⟨rfl, hb1⟩
  have hb2 := hb0.trans (hb1.mono hb0.size)
  have hL2 := hL0.below hb1 hL0.lt
  clear HM HM2 hL0 hb0 hb1
  obtain ⟨mL, hmL⟩ : ∃ q, q = L.length := ⟨_, rfl⟩
  have HSS : Hid (∀ V', Below w1.heap.size w1 V' → (V'.cell? ⟨w.heap.size, 0, none⟩ = some (.int .i64 k) ∧ V'.cell? ⟨w.heap.size, 1, none⟩ = some (.string s) ∧ V'.cell? ⟨w.heap.size, 2, none⟩ = some (.int .i64 n) ∧ V'.cell? ⟨w.heap.size, 3, none⟩ = some (.int .i64 a) ∧ V'.cell? ⟨w.heap.size, 4, none⟩ = some (.slice A m c))) := Lib.hid fun V' h =>
    ⟨(h.cell (p := ⟨w.heap.size, 0, none⟩) hL2.lt).trans (hL2.cell 0), (h.cell (p := ⟨w.heap.size, 1, none⟩) hL2.lt).trans (hL2.cell 1), (h.cell (p := ⟨w.heap.size, 2, none⟩) hL2.lt).trans (hL2.cell 2), (h.cell (p := ⟨w.heap.size, 3, none⟩) hL2.lt).trans (hL2.cell 3), (h.cell (p := ⟨w.heap.size, 4, none⟩) hL2.lt).trans (hL2.cell 4)⟩
  have HK2 : Hid (∀ X, Below w1.heap.size w1 X → Calls Tryz.prog 16 #[.agg #[.int .i64 k, .string s, .int .i64 n, .int .i64 a, .slice A m c]] X fun e w' => ∃ Al cl, e = .returned (.slice Al mL cl) ∧ Hid (AIn w' Any L Al) ∧ Below X.heap.size X w') := Lib.hid fun X hX =>
    (HK.out X (TIn.below _ HI.out (hb2.trans (hX.mono hb2.size)) (Nat.le_refl _))).mono fun e w' h => by
      obtain ⟨Al, cl, h1, h2, h3⟩ := h
      exact ⟨Al, cl, by rw [h1, hmL], Lib.hid h2, h3⟩
  have HC2 : Hid (∀ X, Below w1.heap.size w1 X → ∀ Al cl, Hid (AIn X Any L Al) → Calls Tryz.prog 29 #[.agg #[.int .i64 k, .string s, .int .i64 n, .int .i64 a, .slice A m c], .slice none 0 0, .slice none 0 0, .slice Al mL cl] X fun e w' => e = .returned (.tuple #[.int .i64 bx, .int .i64 bz]) ∧ Below X.heap.size X w') := Lib.hid fun X hX Al cl hA => by
    rw [hmL]; exact HC.out Al cl X (TIn.below _ HI.out (hb2.trans (hX.mono hb2.size)) (Nat.le_refl _)) hA.out
  clear HC HK hmL hL2
  go_upto_region 3 with fail
  have hb_1 : Below w1.heap.size w1 w1 := Below.refl _ _
  refine wp_region_K (S := (fun V' : World => (V'.cell? ⟨w.heap.size, 0, none⟩ = some (.int .i64 k) ∧ V'.cell? ⟨w.heap.size, 1, none⟩ = some (.string s) ∧ V'.cell? ⟨w.heap.size, 2, none⟩ = some (.int .i64 n) ∧ V'.cell? ⟨w.heap.size, 3, none⟩ = some (.int .i64 a) ∧ V'.cell? ⟨w.heap.size, 4, none⟩ = some (.slice A m c)))) 7 rfl (HSS.out _ hb_1.drew) (fun hSs => ?_)
  change wpAnyK _ _ _ _ _ _ 8 (Array.replicate 8 false) _ _
  refine wpAnyK_take (i := 0) (oi := ⟨some 7, _, _, _, _, _⟩) (v := .agg #[.int .i64 k, .string s, .int .i64 n, .int .i64 a, .slice A m c]) rfl (by kernel_rfl) (by kernel_rfl) (by kernel_rfl) (by kernel_rfl) (fun _ _ _ h => h) (.inl ⟨by kernel_rfl, fun W hW => by first | (obtain ⟨z0, z1, z2, z3, z4⟩ := hW; go_simp; done) | (obtain ⟨z0, z1, z2, z3, z4⟩ := hW; go_simp; omega) | (obtain ⟨z0, z1, z2, z3, z4⟩ := hW; go_simp; exact IntWalk.i64_in _ (by omega)) | (obtain ⟨z0, z1, z2, z3, z4⟩ := hW; go_simp; simp [*]; done)⟩) hSs ?_
  try simp only [Act.put, List.setIfInBounds_toArray, List.set_cons_zero, List.set_cons_succ]
  refine wpAnyK_take (i := 1) (oi := ⟨some 8, _, _, _, _, _⟩) (v := .agg #[.int .i64 k, .string s, .int .i64 n, .int .i64 a, .slice A m c]) rfl (by kernel_rfl) (by kernel_rfl) (by kernel_rfl) (by kernel_rfl) (fun _ _ _ h => h) (.inl ⟨by kernel_rfl, fun W hW => by first | (obtain ⟨z0, z1, z2, z3, z4⟩ := hW; go_simp; done) | (obtain ⟨z0, z1, z2, z3, z4⟩ := hW; go_simp; omega) | (obtain ⟨z0, z1, z2, z3, z4⟩ := hW; go_simp; exact IntWalk.i64_in _ (by omega)) | (obtain ⟨z0, z1, z2, z3, z4⟩ := hW; go_simp; simp [*]; done)⟩) hSs ?_
  try simp only [Act.put, List.setIfInBounds_toArray, List.set_cons_zero, List.set_cons_succ]
  refine wpAnyK_one  (i := 2) rfl rfl (by kernel_rfl) (fun K hK => ?_)
  go_simp
  refine (HK2.out _ (hb_1.drew) ).mono ?_
  rintro e u_2 ⟨A_2, c_2, rfl, hA_2, hq_2⟩
  have hb_2 := (hb_1.drew).trans (hq_2.mono (hb_1.drew).size)
  refine hK.out _ _ (fun _ => HSS.out _ hb_2) (fun hS9 => ?_)
  have hS_2 := hS9 (by decide)
  clear hK K hS9
  try simp only [Act.put, List.setIfInBounds_toArray, List.set_cons_zero, List.set_cons_succ]
  refine wpAnyK_one  (i := 3) rfl rfl (by kernel_rfl) (fun K hK => ?_)
  go_simp
  refine (HC2.out _ hb_2 A_2 c_2 hA_2).mono ?_
  rintro e u_3 ⟨rfl, hq_3⟩
  have hb_3 := hb_2.trans (hq_3.mono hb_2.size)
  refine hK.out _ _ (fun _ => HSS.out _ hb_3) (fun hS9 => ?_)
  have hS_3 := hS9 (by decide)
  clear hK K hS9
  try simp only [Act.put, List.setIfInBounds_toArray, List.set_cons_zero, List.set_cons_succ]
  refine wpAnyK_take (i := 4) (oi := ⟨some 11, _, _, _, _, _⟩) (v := .int .i64 bx) rfl (by kernel_rfl) (by kernel_rfl) (by kernel_rfl) (by kernel_rfl) (fun _ _ _ h => h) (.inl ⟨by kernel_rfl, fun W hW => by first | (obtain ⟨z0, z1, z2, z3, z4⟩ := hW; go_simp; done) | (obtain ⟨z0, z1, z2, z3, z4⟩ := hW; go_simp; omega) | (obtain ⟨z0, z1, z2, z3, z4⟩ := hW; go_simp; exact IntWalk.i64_in _ (by omega)) | (obtain ⟨z0, z1, z2, z3, z4⟩ := hW; go_simp; simp [*]; done)⟩) hS_3 ?_
  try simp only [Act.put, List.setIfInBounds_toArray, List.set_cons_zero, List.set_cons_succ]
  refine wpAnyK_take (i := 5) (oi := ⟨some 12, _, _, _, _, _⟩) (v := .int .i64 bz) rfl (by kernel_rfl) (by kernel_rfl) (by kernel_rfl) (by kernel_rfl) (fun _ _ _ h => h) (.inl ⟨by kernel_rfl, fun W hW => by first | (obtain ⟨z0, z1, z2, z3, z4⟩ := hW; go_simp; done) | (obtain ⟨z0, z1, z2, z3, z4⟩ := hW; go_simp; omega) | (obtain ⟨z0, z1, z2, z3, z4⟩ := hW; go_simp; exact IntWalk.i64_in _ (by omega)) | (obtain ⟨z0, z1, z2, z3, z4⟩ := hW; go_simp; simp [*]; done)⟩) hS_3 ?_
  try simp only [Act.put, List.setIfInBounds_toArray, List.set_cons_zero, List.set_cons_succ]
  refine wpAnyK_take (i := 6) (oi := ⟨some 2, _, _, _, _, _⟩) (v := .int .i64 bx) rfl (by kernel_rfl) (by kernel_rfl) (by kernel_rfl) (by kernel_rfl) (fun _ _ _ h => h) (.inl ⟨by kernel_rfl, fun W hW => by kernel_rfl⟩) hS_3 ?_
  try simp only [Act.put, List.setIfInBounds_toArray, List.set_cons_zero, List.set_cons_succ]
  refine wpAnyK_one  (i := 7) rfl rfl (by kernel_rfl) (fun K hK => ?_)
  go_simp
  refine hK.out _ _ (fun h => absurd rfl h) (fun _ => ?_)
  clear hK K
  try simp only [Act.put, List.setIfInBounds_toArray, List.set_cons_zero, List.set_cons_succ]
  refine wpAnyK_done (by kernel_rfl) ?_ _
  have hb3 := hb2.trans (hb_3.mono hb2.size)
  clear hb_3 hb2
  go_wp2_with fail
  go_ret2
  exact ⟨rfl, hb3⟩
set_option maxHeartbeats 2000000 in
theorem rCheck_no (t : Tr) (A : Option Addr) (c : Nat) (w : World) (hI : TIn w Any t A) (hm : mayV t = false) :
    Calls Tryz.prog 10 #[tv t A c] w fun e w' => e = .returned (.tuple #[.int .i64 0, .int .i64 1]) ∧ Below w.heap.size w w' := by
  have HM := Lib.hid (fun W (h : TIn W Any t A) => rMay_any t A c W h)
  rw [hm] at HM
  have HI := Lib.hid hI
  clear hI hm
  obtain ⟨k, s, n, a, l⟩ := t
  simp only [tv, Tr.kind, Tr.name, Tr.n, Tr.place, Tr.parts] at HM
  show Calls Tryz.prog 10 #[.agg #[.int .i64 k, .string s, .int .i64 n, .int .i64 a, .slice A l.length (capF l.length c)]] w _
  generalize l.length = m at *
  generalize capF m c = c at *
  have hb0 : Below w.heap.size w (w.alloc (.cells #[.int .i64 k, .string s, .int .i64 n, .int .i64 a, .slice A m c] 24)) := (Below.refl _ w).alloc (Nat.le_refl _) _
  have hL0 := Lies.new w 24 #[.int .i64 k, .string s, .int .i64 n, .int .i64 a, .slice A m c]
  obtain ⟨⟨x0, x1, x2, x3, x4⟩, _⟩ := hL0.five
  have HM2 := Lib.hid (HM.out _ (TIn.below _ HI.out hb0 (Nat.le_refl _)))
  clear hL0 HM
  go_enter Tryz.func10, Tryz.ntmps10
  go_wp2_with fail
  refine HM2.out.mono ?_
  rintro e w1 ⟨rfl, hb1⟩
  go_wp2_with fail
  go_ret2
  exact ⟨rfl, hb0.trans (hb1.mono hb0.size)⟩
theorem rCheck_all (t : Tr) (A : Option Addr) (c : Nat) (w : World) (hI : TIn w Any t A) (hz : sizeT t ≤ 5000) (hd : depthT t ≤ 5000) :
    Calls Tryz.prog 10 #[tv t A c] w fun e w' => e = .returned (.tuple #[.int .i64 (checkV t).1, .int .i64 (checkV t).2]) ∧ Below w.heap.size w w' := by
  cases hm : mayV t with
  | true => rw [checkV, if_pos hm]; exact rCheck_yes t A c w hI hm hz hd
  | false => rw [checkV, if_neg (by rw [hm]; decide)]; exact rCheck_no t A c w hI hm
set_option maxHeartbeats 2000000 in
theorem rCons_no (t : Tr) (A : Option Addr) (c : Nat) (w : World) (hI : TIn w Any t A) (hm : mayV t = false) :
    Calls Tryz.prog 16 #[tv t A c] w (AGive [] w) := by
  have HM := Lib.hid (fun W (h : TIn W Any t A) => rMay_any t A c W h)
  rw [hm] at HM
  have HI := Lib.hid hI
  clear hI hm
  obtain ⟨k, s, n, a, l⟩ := t
  simp only [tv, Tr.kind, Tr.name, Tr.n, Tr.place, Tr.parts] at HM
  show Calls Tryz.prog 16 #[.agg #[.int .i64 k, .string s, .int .i64 n, .int .i64 a, .slice A l.length (capF l.length c)]] w _
  generalize l.length = m at *
  generalize capF m c = c at *
  have hb0 : Below w.heap.size w (w.alloc (.cells #[.int .i64 k, .string s, .int .i64 n, .int .i64 a, .slice A m c] 24)) := (Below.refl _ w).alloc (Nat.le_refl _) _
  have hL0 := Lies.new w 24 #[.int .i64 k, .string s, .int .i64 n, .int .i64 a, .slice A m c]
  obtain ⟨⟨x0, x1, x2, x3, x4⟩, _⟩ := hL0.five
  have HM2 := Lib.hid (HM.out _ (TIn.below _ HI.out hb0 (Nat.le_refl _)))
  clear hL0 HM
  go_enter Tryz.func16, Tryz.ntmps16
  go_wp2_with fail
  refine HM2.out.mono ?_
  rintro e w1 ⟨rfl, hb1⟩
  go_wp2_with fail
  go_ret
  exact ⟨none, 0, rfl, fun i hi => by simp at hi, hb0.trans (hb1.mono hb0.size)⟩
theorem rCons_all (t : Tr) (A : Option Addr) (c : Nat) (w : World) (hI : TIn w Any t A) (hz : sizeT t ≤ 5000) :
    Calls Tryz.prog 16 #[tv t A c] w (AGive (consV5 t) w) := by
  cases hm : mayV t with
  | true => rw [consV5, if_pos hm]; exact rCons_ok t A c w hI hm hz
  | false => rw [consV5, if_neg (by rw [hm]; decide)]; exact rCons_no t A c w hI hm
set_option maxHeartbeats 2000000 in
theorem rFree_no (t : Tr) (A : Option Addr) (c : Nat) (w : World) (hI : TIn w Any t A) (hm : mayV t = false) :
    Calls Tryz.prog 13 #[tv t A c] w (SGive [] w) := by
  have HM := Lib.hid (fun W (h : TIn W Any t A) => rMay_any t A c W h)
  rw [hm] at HM
  have HI := Lib.hid hI
  clear hI hm
  obtain ⟨k, s, n, a, l⟩ := t
  simp only [tv, Tr.kind, Tr.name, Tr.n, Tr.place, Tr.parts] at HM
  show Calls Tryz.prog 13 #[.agg #[.int .i64 k, .string s, .int .i64 n, .int .i64 a, .slice A l.length (capF l.length c)]] w _
  generalize l.length = m at *
  generalize capF m c = c at *
  have hb0 : Below w.heap.size w (w.alloc (.cells #[.int .i64 k, .string s, .int .i64 n, .int .i64 a, .slice A m c] 24)) := (Below.refl _ w).alloc (Nat.le_refl _) _
  have hL0 := Lies.new w 24 #[.int .i64 k, .string s, .int .i64 n, .int .i64 a, .slice A m c]
  obtain ⟨⟨x0, x1, x2, x3, x4⟩, _⟩ := hL0.five
  have HM2 := Lib.hid (HM.out _ (TIn.below _ HI.out hb0 (Nat.le_refl _)))
  clear hL0 HM
  go_enter Tryz.func13, Tryz.ntmps13
  go_wp2_with fail
  refine HM2.out.mono ?_
  rintro e w1 ⟨rfl, hb1⟩
  go_wp2_with fail
  go_ret
  exact ⟨none, 0, rfl, SIn.nil _ _ _, fun _ => rfl, hb0.trans (hb1.mono hb0.size)⟩
set_option maxHeartbeats 2000000 in
theorem rFree_yes (t : Tr) (A : Option Addr) (c : Nat) (w : World) (hI : TIn w Any t A) (hm : mayV t = true) (hz : sizeT t ≤ 5000) (hd : depthT t ≤ 5000) :
    Calls Tryz.prog 13 #[tv t A c] w (SGive (freeT t) w) := by
  have hok := mayV_ok t hm
  have HF : Hid (∀ W, TIn W Any t A → Calls Tryz.prog 33 #[tv t A c, .slice none 0 0, .slice none 0 0] W (SGive (freeT t) W)) := Lib.hid fun W h => by
    have h9 := free5r_any (depthT t) t A c [] [] none 0 none 0 W (Nat.le_refl _) hok (by simp; omega) (by simp; omega) h ⟨SIn.nil _ _ _, fun _ => rfl⟩ ⟨SIn.nil _ _ _, fun _ => rfl⟩
    rw [insAll_free] at h9
    exact h9
  obtain ⟨F, hF⟩ : ∃ z, z = freeT t := ⟨_, rfl⟩
  rw [← hF] at HF ⊢
  clear hF hok hz hd
  have HM := Lib.hid (fun W (h : TIn W Any t A) => rMay_any t A c W h)
  rw [hm] at HM
  have HI := Lib.hid hI
  clear hI hm
  obtain ⟨k, s, n, a, l⟩ := t
  simp only [tv, Tr.kind, Tr.name, Tr.n, Tr.place, Tr.parts] at HM HF
  show Calls Tryz.prog 13 #[.agg #[.int .i64 k, .string s, .int .i64 n, .int .i64 a, .slice A l.length (capF l.length c)]] w _
  generalize l.length = m at *
  generalize capF m c = c at *
  have hb0 : Below w.heap.size w (w.alloc (.cells #[.int .i64 k, .string s, .int .i64 n, .int .i64 a, .slice A m c] 24)) := (Below.refl _ w).alloc (Nat.le_refl _) _
  have hL0 := Lies.new w 24 #[.int .i64 k, .string s, .int .i64 n, .int .i64 a, .slice A m c]
  have HM2 := Lib.hid (HM.out _ (TIn.below _ HI.out hb0 (Nat.le_refl _)))
  clear HM
  go_enter Tryz.func13, Tryz.ntmps13
  obtain ⟨⟨x0, x1, x2, x3, x4⟩, _⟩ := hL0.five
  go_wp2_with fail
  refine HM2.out.mono ?_
  rintro e w1 ⟨rfl, hb1⟩
  have hb2 := hb0.trans (hb1.mono hb0.size)
  have hL2 := hL0.below hb1 hL0.lt
  have HF2 := Lib.hid (HF.out w1 (TIn.below _ HI.out hb2 (Nat.le_refl _)))
  clear HF HM2 hL0 hb0 hb1 x0 x1 x2 x3 x4
  obtain ⟨⟨x0, x1, x2, x3, x4⟩, _⟩ := hL2.five
  go_wp2_with fail
  refine HF2.out.mono ?_
  rintro e w2 ⟨A2, c2, rfl, h2, h2n, hb3⟩
  go_wp2_with fail
  go_ret
  exact ⟨A2, c2, rfl, h2, h2n, hb2.trans (hb3.mono hb2.size)⟩
theorem rFree_all (t : Tr) (A : Option Addr) (c : Nat) (w : World) (hI : TIn w Any t A) (hz : sizeT t ≤ 5000) (hd : depthT t ≤ 5000) :
    Calls Tryz.prog 13 #[tv t A c] w (SGive (freeV5 t) w) := by
  cases hm : mayV t with
  | true => rw [freeV5, if_pos hm]; exact rFree_yes t A c w hI hm hz hd
  | false => rw [freeV5, if_neg (by rw [hm]; decide)]; exact rFree_no t A c w hI hm
end Lx
end Go.Proofs.YtobdoahdjbmflaaGreatDoor
