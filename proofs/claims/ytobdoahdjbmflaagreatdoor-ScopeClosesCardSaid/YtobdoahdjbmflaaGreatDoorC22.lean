/-
  Texts that lie one behind the other: GAll ALen RefAll GParse ScV ShelfB Bld Fixed RowsUp Open RowsT ScYa.
-/
import Derived.Test.YtobdoahdjbmflaaGreatDoorC21
import Derived.Test.YtobdoahdjbmflaaGreatDoorC7
import Derived.Test.YtobdoahdjbmflaaGreatDoorC4
import Derived.Test.YtobdoahdjbmflaaGreatDoorC14
import Derived.Test.YtobdoahdjbmflaaGreatDoorC3
import Derived.Test.YtobdoahdjbmflaaGreatDoorC8
import Derived.Test.YtobdoahdjbmflaaGreatDoorC15
import Derived.Test.YtobdoahdjbmflaaGreatDoorC16
import Derived.Test.YtobdoahdjbmflaaGreatDoorProg
import Derived.Test.YtobdoahdjbmflaaGreatDoorRows
import Derived.Test.YtobdoahdjbmflaaGreatDoorTie
import Derived.Test.YtobdoahdjbmflaaGreatDoorCards
import Derived.Deep.AppendLies
import Derived.Shelf.Strings.Builder1
import Derived.Shelf.Strings.BuilderF
import Derived.Shelf.Strings.BuilderK
import Derived.Shelf.LaysM
import Derived.Lib.Builder
import Derived.Lib.AppendStr
import Derived.Lib.OthersKept
import Derived.Lib.UnsafeStr
import Derived.Laws.Externs
import Derived.Lib.FrozenHead
import Derived.WalkSmall
import Derived.ProofKit
import Derived.LaidMore
import Derived.OpenShut
import Derived.Stop.Joined
import Derived.SevenTiedAt
import Derived.ChangeArms
import Derived.Carry
import Derived.WideKeyArgs
namespace Go.Proofs.YtobdoahdjbmflaaGreatDoor
open Go.RowKit
namespace Lx
set_option maxRecDepth 100000
structure GAllF (l : List Tok) (A : Option Addr) (n c f : Nat) : Prop where
  expr : GC 37 l A n c 7 gExpr f
  lam : GC 59 l A n c 6 gLam f
  let_ : GC 60 l A n c 6 gLet f
  alt : GC 90 l A n c 6 gAlt f
  match_ : GCM l A n c f
  ops : ∀ lev, lev ≤ 3 → GCO l A n c f lev
  app : GC 91 l A n c 2 gApp f
  atom : GC 101 l A n c 1 gAtom f
theorem gall_up {l : List Tok} {A : Option Addr} {n c f : Nat} (T : GTok l n) (h : ∀ g, g ≤ f → GAllF l A n c g) : GAllF l A n c (f + 1) :=
  have h0 := h f (Nat.le_refl _)
  ⟨gexpr_any T h0.lam h0.let_ h0.match_ (h0.ops 0 (by omega)), glam_any T h0.expr, glet_any T h0.expr, galt_any T h0.expr, gmatch_any T h0.expr (fun g hg => (h g hg).alt),
    fun lev hl => gops_any T h0.app (fun g hg => (h g hg).ops) lev hl, gapp_any T (fun g hg => (h g hg).atom), gatom_any T h0.expr⟩
theorem gall {l : List Tok} {A : Option Addr} {n c : Nat} (T : GTok l n) : ∀ f g, g ≤ f → GAllF l A n c g
  | 0, g, hg => by
    obtain rfl : g = 0 := by omega
    refine ⟨?_, ?_, ?_, ?_, ?_, ?_, ?_, ?_⟩
    all_goals first | (intro i x w _ _ h; exfalso; omega) | (intro lev hl i x y w _ _ _ h; exfalso; omega)
  | f + 1, g, hg => by
    rcases Nat.lt_or_ge f g with h | h
    · obtain rfl : g = f + 1 := by omega
      exact gall_up T (gall T f)
    · exact gall T f g h
end Lx
end Go.Proofs.YtobdoahdjbmflaaGreatDoor
namespace Go.Proofs.YtobdoahdjbmflaaGreatDoor
open Go.RowKit
namespace Lx
set_option maxRecDepth 100000
theorem runK_len {l : List UInt8} {k n : Int} (h : runK l = .ok (k, n)) : l.length ≤ 18 := by
  unfold runK at h
  split at h
  · unfold numK at h
    split at h
    · cases h
    · split at h
      · cases h
      · rename_i h2
        simp only [not_or] at h2
        omega
  · split at h
    · cases h
    · omega
theorem good_len {t : Tok} (h : Good t) : t.text.length ≤ 18 := by
  obtain ⟨l, h⟩ := h
  unfold tokK at h
  split at h
  · split at h
    · rename_i k n h1
      simp only [Except.ok.injEq, Prod.mk.injEq] at h
      rw [← h.2.2]
      exact runK_len h1
    · cases h
  · split at h
    · rename_i g h1
      simp only [Except.ok.injEq, Prod.mk.injEq] at h
      rw [← h.2.2]
      have : ∀ g ∈ signsS, g.length ≤ 18 := by decide
      exact this g (List.mem_of_find?_eq_some h1)
    · cases h
theorem good_con {t : Tok} (h : Good t) (hk : t.kind ≠ 5) : (t.text == [40]) = false := by
  obtain ⟨l, h⟩ := h
  unfold tokK at h
  split at h
  · split at h
    · rename_i k n h1
      simp only [Except.ok.injEq, Prod.mk.injEq] at h
      obtain ⟨_, _, h3⟩ := h
      have hall := run_take_all ldR l
      cases ht : t.text == [40] with
      | false => rfl
      | true =>
        rw [eq_of_beq ht] at h3
        have := hall 40 (by rw [h3]; simp)
        revert this; decide
    · cases h
  · split at h
    · simp only [Except.ok.injEq, Prod.mk.injEq] at h
      exact absurd h.1.symm hk
    · cases h
theorem allK_good {s : List UInt8} {ts : List Tok} (h : allK s = .ok ts) : ∀ t ∈ ts, Good t := scan_all_good _ _ _ _ h
theorem allK_len {s : List UInt8} {ts : List Tok} (h : allK s = .ok ts) : ts.length ≤ 2 * s.length := by
  have h1 := textS_bound _ _ _ _ h
  have h2 := textS_len ts (allK_good h)
  simp at h1
  omega
theorem resP {fn : Func} (h : fn.results = #[.cell 4 24, .tmp 5, .tmp 6]) {tmps : Array Value} {b0 : Nat} {a b c d e x y : Value} {w : World}
    (h4 : tmps.getD 4 undef = .pointer (some ⟨b0, 0, none⟩)) (h5 : tmps.getD 5 undef = x) (h6 : tmps.getD 6 undef = y) (L0 : Lies w b0 24 #[a, b, c, d, e]) :
    (results fn tmps).run Tryz.prog w = .ok (.tuple #[.agg #[a, b, c, d, e], x, y]) w := by
  obtain ⟨⟨z0, z1, z2, z3, z4⟩, _⟩ := L0.five
  have h4' : tmps[4]?.getD undef = .pointer (some ⟨b0, 0, none⟩) := by simpa using h4
  have h5' : tmps[5]?.getD undef = x := by simpa using h5
  have h6' : tmps[6]?.getD undef = y := by simpa using h6
  simp [results, h, h4', h5', h6', asAddr, go_sem, z0, z1, z2, z3, z4]

end Lx
end Go.Proofs.YtobdoahdjbmflaaGreatDoor
namespace Go.Proofs.YtobdoahdjbmflaaGreatDoor
open Go.RowKit
namespace Lx
set_option maxRecDepth 100000
/-- Where the blanks end. -/
def blkEnd (l : List UInt8) (k : Nat) : Nat := k + run blkR (l.drop k)
theorem blkEnd_le (l : List UInt8) (k : Nat) (h : k ≤ l.length) : blkEnd l k ≤ l.length := by
  have := run_le blkR (l.drop k)
  rw [List.length_drop] at this
  unfold blkEnd
  omega
theorem blkEnd_step {l : List UInt8} {k : Nat} {c : UInt8} {r : List UInt8} (h : l.drop k = c :: r) (hr : l.drop (k + 1) = r) (hc : blkR (c.toNat : Int) = true) : blkEnd l k = blkEnd l (k + 1) := by
  unfold blkEnd
  rw [h, hr, run]
  simp [hc]
  omega
theorem blkEnd_stop {l : List UInt8} {k : Nat} {c : UInt8} {r : List UInt8} (h : l.drop k = c :: r) (hc : blkR (c.toNat : Int) = false) : blkEnd l k = k := by
  unfold blkEnd
  rw [h, run]
  simp [hc]
theorem cls_blank (c : UInt8) : (clsV (c.toNat : Int) == 4) = blkR (c.toNat : Int) := by
  have := c.toNat_lt
  unfold clsV
  cases h1 : lowR (c.toNat : Int)
  · cases h2 : upR (c.toNat : Int)
    · cases h3 : digR (c.toNat : Int)
      · cases h4 : blkR (c.toNat : Int) <;> simp
      · have h4 : blkR (c.toNat : Int) = false := by simp [digR] at h3; simp [blkR]; omega
        simp [h4]
    · have h4 : blkR (c.toNat : Int) = false := by simp [upR] at h2; simp [blkR]; omega
      simp [h4]
  · have h4 : blkR (c.toNat : Int) = false := by simp [lowR] at h1; simp [blkR]; omega
    simp [h4]
theorem res_three {fn : Func} {p q r : Tmp} (h : fn.results = #[.tmp p, .tmp q, .tmp r]) {tmps : Array Value} {x y z : Value} (hp : tmps.getD p undef = x) (hq : tmps.getD q undef = y) (hr : tmps.getD r undef = z) {w : World} :
    (results fn tmps).run Tryz.prog w = .ok (.tuple #[x, y, z]) w := by
  subst hp hq hr
  simp only [results, h]
  simp
/-- What R.All answers. -/
def RAllPost (w : World) (r : Except (Int × Int) (List Tok)) (e : Ending) (w' : World) : Prop :=
  (∀ ts, r = .ok ts → ∃ A c, e = .returned (.tuple #[.slice A ts.length c, .int .i64 0, .int .i64 0]) ∧ Row w' A ts) ∧
  (∀ p x, r = .error (p, x) → e = .returned (.tuple #[.slice none 0 0, .int .i64 p, .int .i64 x])) ∧ Below w.heap.size w w'
set_option maxHeartbeats 4000000 in
theorem rall_any (s : ByteArray) (w : World) (hs : s.size ≤ 60000) :
    Calls Tryz.prog 36 #[.string s] w fun e w' => RAllPost w (allK s.data.toList) e w' := by
  have hl0 := Lib.hid (Lib.size_eq s)
  go_enter Tryz.func36, Tryz.ntmps36
  go_wp2_with fail
  go_loopw [5, 6] (fun v a wr => ∃ (k f : Nat) (acc : List Tok), k ≤ s.size ∧ a = .int .i64 k ∧ s.size < blkEnd s.data.toList k + f ∧ acc.length ≤ k ∧ wr.ownsRow w.heap.size 71 4 v acc.length (cellsOf acc) ∧ Below w.heap.size w wr ∧ Hid (allK s.data.toList = glue acc (scan f (s.data.toList.drop (blkEnd s.data.toList k)) (blkEnd s.data.toList k)))) (fun _ a _ => s.size - (intOf a).toNat)
  case atStart =>
    refine ⟨0, s.size + 1, [], by omega, rfl, by omega, by simp, World.ownsRow_made w #[] 0 (Nat.le_refl _) (by simp [maxLen]) rfl, (Below.refl _ w).alloc (Nat.le_refl _) _, ?_⟩
    show allK s.data.toList = _
    have e : blkEnd s.data.toList 0 = run blkR s.data.toList := by simp [blkEnd]
    unfold allK
    rw [e, ← hl0.out]
    cases scan (s.size + 1) (s.data.toList.drop (run blkR s.data.toList)) (run blkR s.data.toList) <;> simp [glue]
  case round =>
    obtain ⟨k, f, acc, hk, rfl, hf, ha, hown, hbw, HS⟩ := hrel
    have hbs := hbw.size
    by_cases hlt : k < s.size
    · have hlen : k < s.data.toList.length := by simpa using hlt
      have hb : s.data.toList[k]'hlen = s[k]'hlt := by simp [ByteArray.getElem_eq_getElem_data]
      have hD := List.drop_eq_getElem_cons hlen
      rw [hb] at hD
      obtain ⟨c, hc⟩ : ∃ c, s[k]'hlt = c := ⟨_, rfl⟩
      rw [hc] at hD
      have HC := fun w => Lib.hid (class_any (c.toNat : Int) w (u8_bd c).1 (u8_bd c).2)
      have HCB := Lib.hid (cls_blank c)
      obtain ⟨v0, hv0⟩ : ∃ v, v = clsV (c.toNat : Int) := ⟨_, rfl⟩
      rw [← hv0] at HC HCB
      clear hv0
      cases hbk : blkR (c.toNat : Int) with
      | true =>
        have hv4 : (v0 == 4) = true := by rw [HCB.out, hbk]
        have HE := Lib.hid (blkEnd_step hD rfl hbk)
        clear hbk
        go_wp2_with fail
        refine (HC _).out.mono ?_
        rintro e w2 ⟨rfl, rfl⟩
        go_wp2_with fail
        go_roundw
        case rel => exact ⟨k + 1, f, acc, by omega, by go_num, by rw [← HE.out]; exact hf, by omega, hown, hbw, by rw [← HE.out]; exact HS⟩
        case measure => simp [intOf]; omega
      | false =>
        have hv4 : (v0 == 4) = false := by rw [HCB.out, hbk]
        have hE := blkEnd_stop hD hbk
        rw [hE] at hf HS
        clear hbk hE
        obtain ⟨f, rfl⟩ : ∃ f', f = f' + 1 := ⟨f - 1, by omega⟩
        have HO := fun w => Lib.hid (one_both s k w hlt (by omega))
        cases htk : tokK (s.data.toList.drop k) with
        | error x =>
          have hx0 : (x == 0) = false := by rcases tokK_err htk with rfl | rfl <;> rfl
          have HE := Lib.hid (scan_bad (f := f) (k := k) (by intro e; have := congrArg List.length e; simp at this; omega) htk)
          have HT := Lib.hid htk
          clear htk
          go_wp2_with fail
          refine (HC _).out.mono ?_
          rintro e w2 ⟨rfl, rfl⟩
          go_wp2_with fail
          refine (HO _).out.mono ?_
          rintro e w2 ⟨_, he, hb2⟩
          obtain rfl := he x HT.out
          unfold noTokR
          go_wp2_with fail
          refine bodyPost_ret (res_three (p := 2) (q := 3) (r := 4) Tryz.results36 rfl rfl rfl) rfl ?_
          refine ⟨fun ts h => ?_, fun p y h => ?_, (hbw.trans (hb2.mono hbs)).alloc (Nat.le_trans hbs hb2.size) _⟩
          · rw [HS.out, HE.out] at h; cases h
          · rw [HS.out, HE.out] at h
            simp only [glue, Except.error.injEq, Prod.mk.injEq] at h
            rw [← h.1, ← h.2]
            try rfl
        | ok r =>
          obtain ⟨kd, n, t⟩ := r
          have hst := scan_step (l := s.data.toList) (by rw [← hl0.out]; exact hlt) (by rw [← hl0.out]; omega) ha htk HS.out
          rw [← hl0.out] at hst
          obtain ⟨s1, s2, s3, s4, s5⟩ := hst
          have HS5 := Lib.hid s5
          have ht1 := (tok_text htk).1
          have ht2 := (tok_text htk).2.1
          rw [List.length_drop, ← hl0.out] at ht2
          have HT := Lib.hid htk
          clear htk s5 HS
          go_wp2_with fail
          refine (HC _).out.mono ?_
          rintro e w2 ⟨rfl, rfl⟩
          go_wp2_with fail
          refine (HO _).out.mono ?_
          rintro e w2 ⟨he, _, hb2⟩
          obtain rfl := he kd n t HT.out
          unfold tokR
          have hown2 := own_below hown hb2 (Nat.le_refl _)
          have hsz2 := hb2.size
          obtain ⟨i0, hi, hz0, hz1, hz2⟩ := info_parts info33
          clear HC HCB HO hD hc hb
          go_wp2_with (at_builtin; refine wpList_append_own _ rfl _ _ 64 rfl w.heap.size 71 i0 _ 4 40 Tryz.underlying64 hi hz0 hz1 hz2 rfl (by decide) _ _ _ rfl ((hown2.alloc _).alloc _) ⟨w2.heap.size + 1, 0, none⟩ 1 1 [.int .i64 kd, .string ⟨t.toArray⟩, .int .i64 n, .int .i64 k] rfl rfl ?c1 ?c2 ?c3 ?c4 ?c5 ?_)
          case c1 => exact new_cells _ 71 [.int .i64 kd, .string ⟨t.toArray⟩, .int .i64 n, .int .i64 k] _ (by simp)
          case c2 => intro u hu; simp at hu; rcases hu with rfl | rfl | rfl | rfl <;> rfl
          case c3 => simp only [maxLen]; omega
          case c4 => omega
          case c5 => simp; omega
          intro v' w3 hown3 hg3 _
          have hL : Lies w3 w2.heap.size 71 #[.int .i64 kd, .string ⟨t.toArray⟩, .int .i64 n, .int .i64 k] :=
            ((Lies.new w2 71 _).old _).grown hg3 (fun e => by have := hown2.lt _ e.symm; omega)
          have hB3 : Below w.heap.size w w3 := ((((hbw.trans (hb2.mono hbs)).alloc (by omega) _).alloc (by simp; omega) _)).grown hg3 (by simp; omega) (fun q hq => (hown2.lt q hq).1)
          clear hi hz0 hz1 hz2 hg3 hown2
          obtain ⟨⟨_, c1, _, _⟩, _⟩ := hL.four
          go_wp2_with fail
          go_roundw
          case rel =>
            refine ⟨k + t.length, f, acc ++ [⟨kd, t, n, k⟩], by omega, by go_num, s3, by simp; omega, ?_, hB3, HS5⟩
            rw [cellsOf_snoc, List.length_append]
            exact hown3
          case measure => simp [intOf]; omega
    · go_wp2_with fail
      refine bodyPost_ret (res_three (p := 2) (q := 3) (r := 4) Tryz.results36 rfl rfl rfl) rfl ?_
      have hkk : k = s.size := by omega
      have hE : blkEnd s.data.toList k = k := by
        unfold blkEnd
        rw [List.drop_eq_nil_of_le (by rw [← hl0.out]; omega)]
        rfl
      have hH := HS.out
      rw [hE, List.drop_eq_nil_of_le (by rw [← hl0.out]; omega), scan_end] at hH
      simp only [glue, List.append_nil] at hH
      refine ⟨fun ts h => ?_, fun p x h => ?_, hbw⟩
      · rw [hH] at h
        cases h
        obtain ⟨A, c, rfl⟩ := own_slice hown
        exact ⟨A, c, rfl, Row.of_own hown⟩
      · rw [hH] at h; cases h
end Lx
end Go.Proofs.YtobdoahdjbmflaaGreatDoor
namespace Go.Proofs.YtobdoahdjbmflaaGreatDoor
open Go.RowKit
namespace Lx
set_option maxRecDepth 100000
theorem parseG_inv {s : List UInt8} {deep : Int} {t : Tr} (h : parseG s deep = .ok t) :
    (1 ≤ deep ∧ deep ≤ 200) ∧ s.length ≤ 4096 ∧ ∃ l j, allK s = .ok l ∧ gExpr (8 * l.length + 8) l 0 = .ok (t, j) ∧ l.length ≤ j ∧ (depthT t : Int) ≤ deep := by
  unfold parseG at h
  split at h
  · cases h
  · rename_i h1
    split at h
    · cases h
    · rename_i h2
      split at h
      · cases h
      · rename_i l hl
        split at h
        · cases h
        · rename_i t' j hg
          split at h
          · cases h
          · rename_i h3
            split at h
            · cases h
            · rename_i h4
              cases h
              exact ⟨by omega, by omega, l, j, hl, hg, by omega, by omega⟩
theorem gtok_of {s : List UInt8} {l : List Tok} (h : allK s = .ok l) (hs : s.length ≤ 4096) : GTok l l.length := by
  have h1 := allK_len h
  refine ⟨rfl, by omega, fun i => ?_⟩
  unfold nmAt
  cases hi : l[i]? with
  | none => decide
  | some t =>
    have h2 := good_len (allK_good h t (List.mem_of_getElem? hi))
    show t.text.toArray.size ≤ _
    rw [List.size_toArray]
    omega
set_option maxHeartbeats 8000000 in
theorem gparse_ok (s : ByteArray) (deep : Int) (t : Tr) (w : World) (h : parseG s.data.toList deep = .ok t) (hz : sizeT t ≤ 100000) :
    Calls Tryz.prog 24 #[.string s, .int .i64 deep] w fun x w' => Below w.heap.size w w' ∧ ∃ A c, x = .returned (.tuple #[tv t A c, .int .i64 0, .int .i64 0]) ∧ TIn w' (fun g => w.heap.size ≤ g) t A := by
  obtain ⟨⟨hd1, hd2⟩, hs, l, j, hl, hg, hj, hdp⟩ := parseG_inv h
  have T := gtok_of hl hs
  have hj2 := (prog_all _).expr l 0 t j hg
  have hsz : s.data.toList.length = s.size := by simp
  have HA := Lib.hid (fun W => rall_any s W (by omega))
  rw [hl] at HA
  obtain ⟨n, hn⟩ : ∃ n, n = l.length := ⟨_, rfl⟩
  have HN := Lib.hid hn
  have hjn1 : n ≤ j := by omega
  have hjn2 : j ≤ n := by omega
  have hs2 : ¬ (4096 : Int) < (s.size : Int) := by omega
  have hdlt : ¬ deep < 1 := by omega
  have hdgt : ¬ (200 : Int) < deep := by omega
  have HG := Lib.hid hg
  have hn6 := T.few
  clear h hs hl hg hsz hj hj2 hn
  have hb0 : Below w.heap.size w (w.alloc (.cells #[.int .i64 0, .string ⟨#[]⟩, .int .i64 0, .int .i64 0, .slice none 0 0] 24)) := (Below.refl _ w).alloc (Nat.le_refl _) _
  have hL := Lies.new w 24 #[.int .i64 0, .string ⟨#[]⟩, .int .i64 0, .int .i64 0, .slice none 0 0]
  go_enter Tryz.func24, Tryz.ntmps24
  go_wp2_with fail
  refine (HA.out _).mono ?_
  intro e w1 hP
  obtain ⟨A, c, rfl, hR⟩ := hP.1 l rfl
  have hb1 := hb0.trans (hP.2.2.mono hb0.size)
  have L1 := hL.below hP.2.2 (by simp)
  have HC := Lib.hid ((gall (c := c) T (8 * l.length + 8) _ (Nat.le_refl _)).expr 0 0 w1 rfl (by omega) (by omega) hR)
  rw [HG.out] at HC
  rw [← HN.out] at HC ⊢
  clear hb0 hL hP HA
  go_wp2_with fail
  refine HC.out.mono ?_
  intro e V hQ
  rcases hQ.split with ⟨j', hr, rfl⟩ | ⟨t', j', A2, c2, hr, rfl, hT⟩
  · cases hr
  · cases hr
    have hbV := hb1.trans (hQ.1.mono hb1.size)
    have LV := L1.below hQ.1 L1.lt
    have hsV := hQ.1.size
    have hs1 := L1.lt
    obtain ⟨tk, ts, tn, ta, tl⟩ := t
    simp only [Tr.kind, Tr.name, Tr.n, Tr.place, Tr.parts]
    have hdz : (depthT (.node tk ts tn ta tl) : Int) ≤ 200 := by omega
    have hD := fun W (h : TIn W Any (.node tk ts tn ta tl) A2) => rdepth_any (depthT (.node tk ts tn ta tl)) (.node tk ts tn ta tl) A2 c2 W (Nat.le_refl _) hz h
    obtain ⟨D, hDD⟩ : ∃ D, D = depthT (.node tk ts tn ta tl) := ⟨_, rfl⟩
    rw [← hDD] at hdp hdz hD
    have hT2 := TIn.below _ hT ((Below.refl _ V).alloc (Nat.le_refl _) (.cells #[.int .i64 tk, .string ts, .int .i64 tn, .int .i64 ta, .slice A2 tl.length (capF tl.length c2), .int .i64 j, .bool true] 68)) (Nat.le_refl _)
    have hb2 := hbV.alloc hbV.size (.cells #[.int .i64 tk, .string ts, .int .i64 tn, .int .i64 ta, .slice A2 tl.length (capF tl.length c2), .int .i64 j, .bool true] 68)
    have L2 := LV.old (.cells #[.int .i64 tk, .string ts, .int .i64 tn, .int .i64 ta, .slice A2 tl.length (capF tl.length c2), .int .i64 j, .bool true] 68)
    have LG := Lies.new V 68 #[.int .i64 tk, .string ts, .int .i64 tn, .int .i64 ta, .slice A2 tl.length (capF tl.length c2), .int .i64 j, .bool true]
    have hge : ¬ (j : Int) < (n : Int) := by omega
    have hdc : ¬ deep < (D : Int) := by omega
    have hD2 := hD _ (TIn.any _ hT2)
    simp only [tv, Tr.kind, Tr.name, Tr.n, Tr.place, Tr.parts] at hD2
    have HD := Lib.hid hD2
    clear hD hD2 hDD hbV LV hQ hT HC hR hz hdp
    go_wp2_with fail
    refine HD.out.mono ?_
    rintro e w4 ⟨rfl, hb4⟩
    have LG4 := LG.below hb4 (by simp)
    have L4 := L2.below hb4 L2.lt
    obtain ⟨⟨x0, x1, x2, x3, x4, x5, x6⟩, _⟩ := LG4.seven
    obtain ⟨⟨y0, y1, y2, y3, y4⟩, f0, f1, f2, f3, f4⟩ := L4.five
    have hT4 := TIn.below _ hT2 hb4 (Nat.le_refl _)
    have hb5 := hb2.trans (hb4.mono hb2.size)
    have HZ := Lib.hid (L4.all5 (.int .i64 tk) (.string ts) (.int .i64 tn) (.int .i64 ta) (.slice A2 tl.length (capF tl.length c2)))
    have hle : w.heap.size ≤ w.heap.size := Nat.le_refl _
    have HB := Lib.hid (((((hb5.setCell (p := ⟨w.heap.size, 0, none⟩) hle (.int .i64 tk)).setCell (p := ⟨w.heap.size, 1, none⟩) hle (.string ts)).setCell (p := ⟨w.heap.size, 2, none⟩) hle (.int .i64 tn)).setCell (p := ⟨w.heap.size, 3, none⟩) hle (.int .i64 ta)).setCell (p := ⟨w.heap.size, 4, none⟩) hle (.slice A2 tl.length (capF tl.length c2)))
    have hX : ¬ w1.heap.size ≤ w.heap.size := by omega
    have HT := Lib.hid (TIn.setCell _ (TIn.setCell _ (TIn.setCell _ (TIn.setCell _ (TIn.setCell _ hT4 ⟨w.heap.size, 0, none⟩ (.int .i64 tk) hX) ⟨w.heap.size, 1, none⟩ (.string ts) hX) ⟨w.heap.size, 2, none⟩ (.int .i64 tn) hX) ⟨w.heap.size, 3, none⟩ (.int .i64 ta) hX) ⟨w.heap.size, 4, none⟩ (.slice A2 tl.length (capF tl.length c2)) hX)
    clear L4 LG4 hT4 hb5 hT2 hb2 L2 LG hb4
    go_wp2_with fail
    refine bodyPost_ret (resP Tryz.results24 (b0 := w.heap.size) (x := .int .i64 0) (y := .int .i64 0) (by simp) (by simp) (by simp) HZ.out) rfl ?_
    exact ⟨HB.out, A2, c2, rfl, TIn.wide _ HT.out fun q hq _ => by have h9 : w1.heap.size ≤ q := hq; show w.heap.size ≤ q; omega⟩
end Lx
end Go.Proofs.YtobdoahdjbmflaaGreatDoor
namespace Go.Proofs.YtobdoahdjbmflaaGreatDoor
open Go Go.RowKit
namespace Lx
set_option maxRecDepth 100000
/-- A box and the tree whose fields it holds. -/
structure Bs5 (W : World) (g : Nat) (t : Tr) (A : Option Addr) (c : Nat) : Prop where
  x : Lies W g 24 #[.int .i64 t.kind, .string t.name, .int .i64 t.n, .int .i64 t.place, .slice A t.parts.length (capF t.parts.length c)]
  t : TIn W Any t A
theorem Bs5.step {W W' : World} {g : Nat} {t : Tr} {A : Option Addr} {c : Nat} (h : Bs5 W g t A c) (hb : Below W.heap.size W W') : Bs5 W' g t A c := ⟨h.x.below hb h.x.lt, TIn.below _ h.t hb (Nat.le_refl _)⟩
theorem Bs5.new {W : World} {t : Tr} {A : Option Addr} {c : Nat} {X : Nat → Prop} (h : TIn W X t A) : Bs5 (W.alloc (.cells #[.int .i64 t.kind, .string t.name, .int .i64 t.n, .int .i64 t.place, .slice A t.parts.length (capF t.parts.length c)] 24)) W.heap.size t A c :=
  ⟨Lies.new W _ _, TIn.any _ (TIn.below _ h ((Below.refl _ W).alloc (Nat.le_refl _) _) (Nat.le_refl _))⟩
theorem below_allocS (W : World) (o : Obj) : Below W.heap.size W (W.alloc o) := (Below.refl _ W).alloc (Nat.le_refl _) o
set_option maxHeartbeats 4000000 in
theorem told5_any (s : ByteArray) (t : Tr) (w : World) (h : parseG s.data.toList 99 = .ok t) (hz : sizeT t ≤ 100000) (hd : depthT t ≤ 4000) (hg : Signs w) :
    Calls Tryz.prog 23 #[.string s] w fun e w' => e = .returned (.tuple #[.int .i64 (checkV t).1, .int .i64 (checkV t).2]) ∧ Below w.heap.size w w' := by
  have HP := Lib.hid (gparse_ok s 99 t w h hz)
  have HC := Lib.hid (fun (W : World) (A : Option Addr) (c : Nat) (hb : Below w.heap.size w W) (hI : TIn W Any t A) => sCheck_any t A c W ⟨hd, by omega, hI, hg.below hb hg.pos⟩)
  obtain ⟨x, hx⟩ : ∃ x, x = (checkV t).1 := ⟨_, rfl⟩
  obtain ⟨y, hy⟩ : ∃ y, y = (checkV t).2 := ⟨_, rfl⟩
  rw [← hx, ← hy] at HC ⊢
  clear h hz hd hg hx hy
  go_enter Tryz.func23, Tryz.ntmps23
  go_wp2_with fail
  refine HP.out.mono ?_
  rintro e w1 ⟨hb1, A, c, rfl, hI⟩
  unfold tv
  go_upto_region 2 with fail
  have B1 := Bs5.new (c := c) hI
  have hb2 := hb1.trans ((below_allocS w1 (.cells #[.int .i64 t.kind, .string t.name, .int .i64 t.n, .int .i64 t.place, .slice A t.parts.length (capF t.parts.length c)] 24)).mono hb1.size)
  have HG := Lib.hid (HC.out _ A c hb2 B1.t)
  unfold tv at HG
  obtain ⟨⟨x0, x1, x2, x3, x4⟩, _⟩ := B1.x.five
  have HB := Lib.hid hb2
  clear HC HP hI hb1 B1 hb2
  obtain ⟨W1, hW1⟩ : ∃ W, W = w1.alloc (.cells #[.int .i64 t.kind, .string t.name, .int .i64 t.n, .int .i64 t.place, .slice A t.parts.length (capF t.parts.length c)] 24) := ⟨_, rfl⟩
  rw [← hW1] at HG HB x0 x1 x2 x3 x4 ⊢
  clear hW1
  go_wp2_with fail
  refine HG.out.mono ?_
  rintro e w2 ⟨rfl, hb2⟩
  go_wp2_with fail
  go_ret2
  exact ⟨rfl, HB.out.trans (hb2.mono HB.out.size)⟩
theorem free5g : freeV5 t5g = [⟨#[102]⟩, ⟨#[103]⟩, ⟨#[104]⟩] := by
  have h1 : mayV t5g = true := by kernel_rfl
  have h2 : onceB [] (looseT [] t5g) = [⟨#[102]⟩, ⟨#[103]⟩, ⟨#[104]⟩] := by kernel_rfl
  rw [freeV5, if_pos h1, freeT, h2, sortB]
  rw [List.mergeSort_of_pairwise (by decide)]
  rfl
theorem cons5g : consV5 t5g = [(⟨#[84, 114, 117, 101]⟩, 0), (⟨#[70, 97, 108, 115, 101]⟩, 0), (⟨#[66]⟩, 2)] := by kernel_rfl
theorem c5a : checkV t5a = (4, 50) := by kernel_rfl
theorem c5b : checkV t5b = (9, 51) := by kernel_rfl
theorem c5c : checkV t5c = (12, 52) := by kernel_rfl
theorem c5d : checkV t5d = (21, 52) := by kernel_rfl
theorem c5e : checkV t5e = (0, 51) := by kernel_rfl
theorem c5f : checkV t5f = (0, 0) := by kernel_rfl
theorem c50 : checkV (.node 0 ⟨#[]⟩ 0 0 []) = (0, 1) := by kernel_rfl
set_option maxHeartbeats 8000000 in
theorem fixed5_any (w : World) (hg : Signs w) : Calls Tryz.prog 8 #[] w fun e w' => e = .returned (.bool true) ∧ Below w.heap.size w w' := by
  have H0 : Hid (∀ W, Below w.heap.size w W → Calls Tryz.prog 23 #[.string ⟨#[92, 120, 46, 32, 121]⟩] W fun e w' => e = .returned (.tuple #[.int .i64 4, .int .i64 50]) ∧ Below W.heap.size W w') := Lib.hid fun W hb => by
    have h := told5_any ⟨#[92, 120, 46, 32, 121]⟩ t5a W r5a (by decide) (by decide) (hg.below hb hg.pos)
    rw [c5a] at h
    exact h
  have H1 : Hid (∀ W, Below w.heap.size w W → Calls Tryz.prog 23 #[.string ⟨#[92, 120, 46, 32, 65, 32, 120, 32, 40, 65, 32, 120, 41]⟩] W fun e w' => e = .returned (.tuple #[.int .i64 9, .int .i64 51]) ∧ Below W.heap.size W w') := Lib.hid fun W hb => by
    have h := told5_any ⟨#[92, 120, 46, 32, 65, 32, 120, 32, 40, 65, 32, 120, 41]⟩ t5b W r5b (by decide) (by decide) (hg.below hb hg.pos)
    rw [c5b] at h
    exact h
  have H2 : Hid (∀ W, Below w.heap.size w W → Calls Tryz.prog 23 #[.string ⟨#[99, 97, 115, 101, 32, 49, 32, 111, 102, 32, 123, 32, 65, 32, 120, 32, 120, 32, 45, 62, 32, 49, 32, 125]⟩] W fun e w' => e = .returned (.tuple #[.int .i64 12, .int .i64 52]) ∧ Below W.heap.size W w') := Lib.hid fun W hb => by
    have h := told5_any ⟨#[99, 97, 115, 101, 32, 49, 32, 111, 102, 32, 123, 32, 65, 32, 120, 32, 120, 32, 45, 62, 32, 49, 32, 125]⟩ t5c W r5c (by decide) (by decide) (hg.below hb hg.pos)
    rw [c5c] at h
    exact h
  have H3 : Hid (∀ W, Below w.heap.size w W → Calls Tryz.prog 23 #[.string ⟨#[99, 97, 115, 101, 32, 49, 32, 111, 102, 32, 123, 32, 65, 32, 45, 62, 32, 49, 32, 124, 32, 65, 32, 45, 62, 32, 50, 32, 125]⟩] W fun e w' => e = .returned (.tuple #[.int .i64 21, .int .i64 52]) ∧ Below W.heap.size W w') := Lib.hid fun W hb => by
    have h := told5_any ⟨#[99, 97, 115, 101, 32, 49, 32, 111, 102, 32, 123, 32, 65, 32, 45, 62, 32, 49, 32, 124, 32, 65, 32, 45, 62, 32, 50, 32, 125]⟩ t5d W r5d (by decide) (by decide) (hg.below hb hg.pos)
    rw [c5d] at h
    exact h
  have H4 : Hid (∀ W, Below w.heap.size w W → Calls Tryz.prog 23 #[.string ⟨#[84, 114, 117, 101, 32, 49]⟩] W fun e w' => e = .returned (.tuple #[.int .i64 0, .int .i64 51]) ∧ Below W.heap.size W w') := Lib.hid fun W hb => by
    have h := told5_any ⟨#[84, 114, 117, 101, 32, 49]⟩ t5e W r5e (by decide) (by decide) (hg.below hb hg.pos)
    rw [c5e] at h
    exact h
  have H5 : Hid (∀ W, Below w.heap.size w W → Calls Tryz.prog 23 #[.string ⟨#[108, 101, 116, 114, 101, 99, 32, 102, 32, 61, 32, 102, 32, 105, 110, 32, 108, 101, 116, 32, 120, 32, 61, 32, 102, 32, 105, 110, 32, 92, 121, 46, 32, 99, 97, 115, 101, 32, 120, 32, 111, 102, 32, 123, 32, 67, 32, 122, 32, 45, 62, 32, 122, 32, 121, 32, 125]⟩] W fun e w' => e = .returned (.tuple #[.int .i64 0, .int .i64 0]) ∧ Below W.heap.size W w') := Lib.hid fun W hb => by
    have h := told5_any ⟨#[108, 101, 116, 114, 101, 99, 32, 102, 32, 61, 32, 102, 32, 105, 110, 32, 108, 101, 116, 32, 120, 32, 61, 32, 102, 32, 105, 110, 32, 92, 121, 46, 32, 99, 97, 115, 101, 32, 120, 32, 111, 102, 32, 123, 32, 67, 32, 122, 32, 45, 62, 32, 122, 32, 121, 32, 125]⟩ t5f W r5f (by decide) (by decide) (hg.below hb hg.pos)
    rw [c5f] at h
    exact h
  have HP : Hid (∀ W, Calls Tryz.prog 24 #[.string ⟨#[102, 32, 40, 92, 120, 46, 32, 120, 32, 103, 41, 32, 40, 66, 32, 102, 32, 104, 41]⟩, .int .i64 99] W fun x w' => Below W.heap.size W w' ∧ ∃ A c, x = .returned (.tuple #[tv t5g A c, .int .i64 0, .int .i64 0]) ∧ TIn w' (fun g => W.heap.size ≤ g) t5g A) := Lib.hid fun W => gparse_ok ⟨#[102, 32, 40, 92, 120, 46, 32, 120, 32, 103, 41, 32, 40, 66, 32, 102, 32, 104, 41]⟩ 99 t5g W r5g (by decide)
  have HZ : Hid (∀ W, Below w.heap.size w W → Calls Tryz.prog 9 #[.agg #[.int .i64 0, .string ⟨#[]⟩, .int .i64 0, .int .i64 0, .slice none 0 0]] W fun e w' => e = .returned (.tuple #[.int .i64 0, .int .i64 1]) ∧ Below W.heap.size W w') := Lib.hid fun W hb => by
    have h := sCheck_any (.node 0 ⟨#[]⟩ 0 0 []) none 0 W ⟨by decide, by decide, TIn.leaf (by decide), hg.below hb hg.pos⟩
    rw [c50] at h
    exact h
  have HF : Hid (∀ W A c, Below w.heap.size w W → TIn W Any t5g A → Calls Tryz.prog 12 #[tv t5g A c] W (GiveN [⟨#[102]⟩, ⟨#[103]⟩, ⟨#[104]⟩] W)) := Lib.hid fun W A c hb hI => by
    have h := sFree_any t5g A c W ⟨by decide, by decide, hI, hg.below hb hg.pos⟩
    rw [free5g] at h
    exact h
  have HC : Hid (∀ W A c, Below w.heap.size w W → TIn W Any t5g A → Calls Tryz.prog 15 #[tv t5g A c] W (GiveA [(⟨#[84, 114, 117, 101]⟩, 0), (⟨#[70, 97, 108, 115, 101]⟩, 0), (⟨#[66]⟩, 2)] W)) := Lib.hid fun W A c hb hI => by
    have h := sCons_any t5g A c W ⟨by decide, by decide, hI, hg.below hb hg.pos⟩
    rw [cons5g] at h
    exact h
  clear hg
  have hbw := Below.refl w.heap.size w
  go_enter Tryz.func8, Tryz.ntmps8
  go_wp2_with fail
  refine (H0.out w hbw).mono ?_
  rintro e w1 ⟨rfl, hb⟩
  replace hbw := hbw.trans (hb.mono hbw.size)
  clear hb H0
  go_wp2_with fail
  refine (H1.out w1 hbw).mono ?_
  rintro e w2 ⟨rfl, hb⟩
  replace hbw := hbw.trans (hb.mono hbw.size)
  clear hb H1
  go_wp2_with fail
  refine (H2.out w2 hbw).mono ?_
  rintro e w3 ⟨rfl, hb⟩
  replace hbw := hbw.trans (hb.mono hbw.size)
  clear hb H2
  go_wp2_with fail
  refine (H3.out w3 hbw).mono ?_
  rintro e w4 ⟨rfl, hb⟩
  replace hbw := hbw.trans (hb.mono hbw.size)
  clear hb H3
  go_wp2_with fail
  refine (H4.out w4 hbw).mono ?_
  rintro e w5 ⟨rfl, hb⟩
  replace hbw := hbw.trans (hb.mono hbw.size)
  clear hb H4
  go_wp2_with fail
  refine (H5.out w5 hbw).mono ?_
  rintro e w6 ⟨rfl, hb⟩
  replace hbw := hbw.trans (hb.mono hbw.size)
  clear hb H5
  go_wp2_with fail
  refine (HP.out w6).mono ?_
  rintro e w7 ⟨hb, A, c, rfl, hI⟩
  replace hbw := hbw.trans (hb.mono hbw.size)
  clear hb HP
  unfold tv
  go_upto_region 8 with fail
  have B1 := Bs5.new (c := c) hI
  replace hbw := hbw.trans ((below_allocS w7 (.cells #[.int .i64 t5g.kind, .string t5g.name, .int .i64 t5g.n, .int .i64 t5g.place, .slice A t5g.parts.length (capF t5g.parts.length c)] 24)).mono hbw.size)
  obtain ⟨g0, hg0⟩ : ∃ g, g = w7.heap.size := ⟨_, rfl⟩
  obtain ⟨W1, hW1⟩ : ∃ W, W = w7.alloc (.cells #[.int .i64 t5g.kind, .string t5g.name, .int .i64 t5g.n, .int .i64 t5g.place, .slice A t5g.parts.length (capF t5g.parts.length c)] 24) := ⟨_, rfl⟩
  rw [← hW1] at B1 hbw ⊢
  rw [← hg0] at B1 ⊢
  clear hW1 hg0 hI
  go_wp2_with fail
  refine (HZ.out W1 hbw).mono ?_
  rintro e w8 ⟨rfl, hb⟩
  replace hbw := hbw.trans (hb.mono hbw.size)
  replace B1 := B1.step hb
  clear hb HZ
  have HCC := Lib.hid (HC.out w8 A c hbw B1.t)
  unfold tv at HCC
  obtain ⟨⟨x0, x1, x2, x3, x4⟩, _⟩ := B1.x.five
  clear HC
  go_wp2_with fail
  refine HCC.out.mono ?_
  rintro e w9 ⟨Am, cm, rfl, hm, hb⟩
  replace hbw := hbw.trans (hb.mono hbw.size)
  replace B1 := B1.step hb
  have hA := AIn.owned hm
  clear hb HCC hm x0 x1 x2 x3 x4
  have HFF := Lib.hid (HF.out w9 A c hbw B1.t)
  unfold tv at HFF
  obtain ⟨⟨x0, x1, x2, x3, x4⟩, _⟩ := B1.x.five
  clear HF
  go_wp2_with fail
  refine HFF.out.mono ?_
  rintro e w10 ⟨Af, cf, rfl, hf, hb⟩
  replace hbw := hbw.trans (hb.mono hbw.size)
  have hA2 := hA.below hb (Nat.le_refl _)
  have hF := SIn.owned hf
  clear hb HFF hf hA x0 x1 x2 x3 x4
  have hb := below_allocS w10 (.cells #[.string ⟨#[102]⟩, .string ⟨#[103]⟩, .string ⟨#[104]⟩] 9)
  have hL := Lies.new w10 9 #[.string ⟨#[102]⟩, .string ⟨#[103]⟩, .string ⟨#[104]⟩]
  have hF2 := hF.below hb (Nat.le_refl _)
  have hA3 := hA2.below hb (Nat.le_refl _)
  replace hbw := hbw.trans (hb.mono hbw.size)
  have hG : SIn (w10.alloc (.cells #[.string ⟨#[102]⟩, .string ⟨#[103]⟩, .string ⟨#[104]⟩] 9)) Any [⟨#[102]⟩, ⟨#[103]⟩, ⟨#[104]⟩] (some ⟨w10.heap.size, 0, none⟩) := fun i hi => by
    have hi3 : i = 0 ∨ i = 1 ∨ i = 2 := by have : i < 3 := hi; omega
    rcases hi3 with rfl | rfl | rfl
    · exact ⟨w10.heap.size, 0, rfl, trivial, hL.cell 0⟩
    · exact ⟨w10.heap.size, 0, rfl, trivial, hL.cell 1⟩
    · exact ⟨w10.heap.size, 0, rfl, trivial, hL.cell 2⟩
  have HN := Lib.hid (names_any [⟨#[102]⟩, ⟨#[103]⟩, ⟨#[104]⟩] [⟨#[102]⟩, ⟨#[103]⟩, ⟨#[104]⟩] Af (some ⟨w10.heap.size, 0, none⟩) 3 3 cf 3 _ rfl rfl (by decide) (by decide) hF2.any hG)
  rw [decide_eq_true rfl] at HN
  clear hb hL hF hA2 hF2 hG
  go_wp2_with fail
  refine HN.out.mono ?_
  rintro e w11 ⟨rfl, hb⟩
  replace hbw := hbw.trans (hb.mono hbw.size)
  have hA4 := hA3.below hb (Nat.le_refl _)
  clear hb HN hA3
  obtain ⟨ga, oa, rfl, _, a0, a1⟩ := hA4 0 (by decide)
  obtain ⟨gb, ob, hab, _, b0, b1⟩ := hA4 2 (by decide)
  injection hab with hab
  injection hab with e1 e2 e3
  subst e1 e2
  clear hA4
  simp only [List.getElem_cons_zero, List.getElem_cons_succ, Nat.zero_mul, Nat.add_zero] at a0 a1 b0 b1
  go_wp2_with fail
  go_ret
  exact ⟨rfl, hbw⟩
end Lx
end Go.Proofs.YtobdoahdjbmflaaGreatDoor
namespace Go.Proofs
open Go.Shelf
end Go.Proofs
namespace Go.Proofs.YtobdoahdjbmflaaGreatDoor
open Go.RowKit
namespace Lx
set_option maxRecDepth 100000
theorem info5 : (Tryz.prog.info? 5).map (fun i => (i.zero, i.size, i.bytes)) = some (some (.int .u8 0), 1, 1) := by kernel_rfl

theorem textS_snoc (l : List Tok) (t : Tok) (h : l ≠ []) : textS (l ++ [t]) = textS l ++ (32 :: t.text) := by
  induction l with
  | nil => exact absurd rfl h
  | cons a r ih =>
    cases r with
    | nil => rfl
    | cons b r =>
      have := ih (by simp)
      simp only [List.cons_append] at this ⊢
      simp only [textS, this, List.append_assoc, List.cons_append]
theorem textS_take (l : List Tok) (i : Nat) (h : i < l.length) (h0 : 0 < i) : textS (l.take (i + 1)) = textS (l.take i) ++ (32 :: (l[i]'h).text) := by
  rw [List.take_succ_eq_append_getElem h, textS_snoc _ _ (by intro e; have := congrArg List.length e; rw [List.length_take] at this; simp only [List.length_nil] at this; omega)]
theorem textS_one (l : List Tok) (h : 0 < l.length) : textS (l.take 1) = (l[0]'h).text := by
  cases l with
  | nil => simp at h
  | cons a r => rfl
theorem textS_mono (l : List Tok) (i : Nat) : (textS (l.take i)).length ≤ (textS l).length := by
  by_cases hi : l.length ≤ i
  · rw [List.take_of_length_le hi]; omega
  · have key : ∀ d, (textS (l.take (l.length - d))).length ≤ (textS l).length := by
      intro d
      induction d with
      | zero => rw [Nat.sub_zero, List.take_length]; omega
      | succ d ih =>
        by_cases hd : l.length ≤ d
        · rw [show l.length - (d + 1) = l.length - d from by omega]; exact ih
        · obtain ⟨k, hk⟩ : ∃ k, k = l.length - (d + 1) := ⟨_, rfl⟩
          rw [← hk]
          rw [show l.length - d = k + 1 from by omega] at ih
          by_cases h0 : 0 < k
          · rw [textS_take l k (by omega) h0] at ih
            simp at ih
            omega
          · rw [show k = 0 from by omega]
            simp [textS]
    have := key (l.length - i)
    rwa [show l.length - (l.length - i) = i from by omega] at this

theorem Lies.others {w w' : World} {g b : Nat} {t : TypeId} {cs : Array Value} (h : Lies w g t cs) (hk : Lib.OthersKept 5 (some b) w w') (hg : g ≠ b) (ht : t ≠ 5) : Lies w' g t cs :=
  hk g _ h (by simpa using hg) (fun c fz e => by injection e with _ e2; exact ht e2)

end Lx
end Go.Proofs.YtobdoahdjbmflaaGreatDoor
namespace Go.Proofs.YtobdoahdjbmflaaGreatDoor
open Go.RowKit
namespace Lx
set_option maxRecDepth 100000
def ts1 : List Tok := [⟨5, [92], 0, 0⟩, ⟨1, [120], 0, 1⟩, ⟨5, [46], 0, 2⟩, ⟨1, [120], 0, 3⟩]
def ts5 : List Tok := [⟨4, [108, 101, 116, 114, 101, 99], 0, 0⟩, ⟨2, [65, 98], 0, 7⟩, ⟨5, [45, 62], 0, 9⟩, ⟨3, [52, 48], 40, 11⟩]
theorem fix1 : allK [92, 120, 46, 120] = .ok ts1 := by kernel_rfl
theorem fix2 : allK [108, 101, 116, 32, 48, 49] = .error (4, 11) := by kernel_rfl
theorem fix3 : allK [32, 32, 63] = .error (2, 10) := by kernel_rfl
theorem fix4 : allK [120, 32, 49, 97] = .error (2, 10) := by kernel_rfl
theorem fix5 : allK [108, 101, 116, 114, 101, 99, 32, 65, 98, 45, 62, 52, 48] = .ok ts5 := by kernel_rfl

theorem want_row (w : World) : Row (w.alloc (.cells #[.int .i64 5, .string ⟨#[92]⟩, .int .i64 0, .int .i64 0, .int .i64 1, .string ⟨#[120]⟩, .int .i64 0, .int .i64 1, .int .i64 5, .string ⟨#[46]⟩, .int .i64 0, .int .i64 2, .int .i64 1, .string ⟨#[120]⟩, .int .i64 0, .int .i64 3] 71)) (some ⟨w.heap.size, 0, none⟩) ts1 := by
  intro _
  refine ⟨w.heap.size, 0, rfl, fun n u hu => ?_⟩
  rw [Nat.zero_add, (Lies.new w 71 _).cell n, ← hu, ← Array.getElem?_toList]
  rfl

end Lx
end Go.Proofs.YtobdoahdjbmflaaGreatDoor
namespace Go.Proofs.YtobdoahdjbmflaaGreatDoor
open Go.ChangeShapes Go.WideShapes Go.ChangeAt Go.RowKit
open Go.ChangeMaps (open_string shut_string)
namespace Lx
set_option maxRecDepth 100000
theorem own_ : ownKnob Tryz.prog.godebug = none := by kernel_rfl
theorem gSigns : Tryz.prog.globalNamed "gossamer/lex.signs" = some 0 := by kernel_rfl
theorem tSigns : (Tryz.prog.globals[0]?).map (·.type) = some 140 := by kernel_rfl
abbrev laidL : List (String × DataW Unit) := [("gossamer/lex.signs", Rows.laid_gossamer_lex_signs)]

theorem door_met (os : Os) (args : Array Value) : laidMetH Tryz.prog laidL ((World.doorLaid Tryz.prog 400 os).forCall (fun _ _ => 0) ⟨#[], args, []⟩).memory :=
  laidMetH_of_parts3 (fuel := 20) (laidMet_of_run' 20 (by kernel_rfl) (by kernel_rfl)) (by kernel_rfl) (by kernel_rfl)

theorem signs_of_laid {W : World} (h : laidMetH Tryz.prog laidL W) : Signs W := by
  rw [MakeChecks.laidMetH_plain _ _ _ (by kernel_rfl)] at h
  obtain ⟨ps, ⟨g0, t0, cs0, f0, p0, q0, hg0, ht0, hv0, hd0, _, _⟩, _, _⟩ := h
  obtain rfl := Option.some.inj (gSigns.symm.trans hg0)
  obtain rfl := Option.some.inj (tSigns.symm.trans ht0)
  obtain ⟨xs, m, rfl, hx, hlen, hn, hel⟩ := DataW.trod_array Tryz.underlying140 hd0
  have c9 : Tryz.prog.cellsOf 9 = 1 := by kernel_rfl
  have c61 : Tryz.prog.cellsOf 140 = 15 := by kernel_rfl
  rw [c61] at hlen
  simp only [Prod.mk.injEq] at hx
  have hl : xs.map (·.1) = signsS.map (fun g => DataW.lit (.string g)) := by
    have h1 := hx.1
    have h2 : (Rows.laid_gossamer_lex_signs : DataW Unit) = .agg (signsS.map (fun g => DataW.lit (.string g))) := rfl
    rw [h2] at h1
    injection h1 with h1
    exact h1.symm
  have hcs : cs0.toList = signsS.map (fun g => Value.string ⟨g.toArray⟩) := by
    apply List.ext_getElem?
    intro i
    by_cases hi : i < 15
    · have he := hel i hi
      rw [c9, Nat.mul_one] at he
      have hxl : i < xs.length := by omega
      rw [List.getElem?_eq_getElem hxl] at he
      obtain ⟨s, e1, e2, _⟩ := DataW.trod_string Tryz.underlying9 he
      have hm : (xs.map (·.1))[i]? = some (xs[i]'hxl).1 := by rw [List.getElem?_map, List.getElem?_eq_getElem hxl]; rfl
      rw [hl, e2, List.getElem?_map] at hm
      have hc : cs0.toList[i]? = some (.string s) := by
        have := congrArg (fun l : List Value => l[0]?) e1
        simpa using this
      rw [hc, List.getElem?_map]
      cases hq : signsS[i]? with
      | none => rw [hq] at hm; cases hm
      | some g =>
        rw [hq] at hm
        simp only [Option.map_some, Option.some.injEq, DataW.lit.injEq, Lit.string.injEq] at hm
        simp only [Option.map_some]
        rw [hm, toBytes]
    · rw [List.getElem?_eq_none (by omega), List.getElem?_eq_none (by have h15 : (signsS.map (fun g => Value.string ⟨g.toArray⟩)).length = 15 := rfl; omega)]
  have hcs2 : cs0 = signCells := by
    apply Array.ext'
    rw [hcs]
    rfl
  simp only [World.var?, gSigns, Option.bind_some] at hv0
  split at hv0
  · rename_i cs t fr hh
    obtain rfl := Option.some.inj hv0
    rw [hcs2] at hh
    exact ⟨t, fr, hh⟩
  · cases hv0

section
variable {H : Type} {enc : TypeId × Value → H} {P : Program}
/-- The end of a row whose arguments hold no places: of what was there nothing has turned. -/
theorem post_plain {f : Func} {s : ChangeSpec} {apart fresh handsOn again : Bool} {W W' : World} {args : Array Value} {v : Value} {ds gs : List (DataW H)}
    (hW : DataW.Whole enc P f.params.toList s.vars apart W args.toList ds gs [])
    (hres : ∀ (b : Nat) (sp : Nat → Bool) (hd : Bool), DataW.TrodAll enc P W' b sp hd f.resultTypes.toList (v.resultList f.resultTypes.size) (s.fn H (ds ++ gs)).results [])
    (hargs : ∀ sp : Nat → Bool, DataW.TrodAll enc P W' 0 sp true f.params.toList args.toList (s.fn H (ds ++ gs)).args [])
    (hvars : ∀ sp : Nat → Bool, DataW.TrodVars enc P W' sp s.vars (s.fn H (ds ++ gs)).vars [])
    (hb : Below W.heap.size W W')
    (hok : ∀ (j : Nat) (t : TypeId) (r : Value), f.resultTypes[j]? = some t → (v.resultList f.resultTypes.size)[j]? = some r → Value.okWide P W' .any 0 t r) :
    s.post enc P f apart fresh handsOn again W args v W' := by
  refine ⟨ds, gs, [], [], [], [], hW, hres _ _ _, hargs _, hvars _, World.keptBut_mono (fun p hp => absurd hp (by simp)) (hb.frame (· ∈ ([] : List MemPlace))), fun _ => ?_⟩
  exact ⟨hok, _, _, ([] ++ []) ++ [], ⟨[] ++ [], [], trodAll_append (hargs _) (hres _ _ _), hvars _, rfl, fun b off hp => by simp at hp, fun _ => by simp⟩, fun p hp => by simp at hp⟩
end
end Lx
end Go.Proofs.YtobdoahdjbmflaaGreatDoor
namespace Go.Proofs.YtobdoahdjbmflaaGreatDoor
open Go.RowKit
namespace Lx
set_option maxRecDepth 100000
section
variable {H : Type} {enc : TypeId × Value → H}
theorem cT5 : Tryz.prog.cellsOf 24 = 5 := by kernel_rfl
theorem bT64 : Tryz.prog.bytesOf 24 = 64 := by kernel_rfl
theorem c3_1 : Tryz.prog.cellsOf 3 = 1 := by kernel_rfl
theorem c9_1 : Tryz.prog.cellsOf 9 = 1 := by kernel_rfl
theorem cL1 : Tryz.prog.cellsOf 22 = 1 := by kernel_rfl
theorem cells?_get {w : World} {base : Nat} {a : Addr} {n : Nat} {cs : List Value} (h : w.cells? base a n = some cs) : ∀ j, j < n → w.cell? (a.add j) = cs[j]? := (World.cells?_some h).2.2
/-- The five cells of a tree's reading. -/
theorem open_parts {W : World} {base : Nat} {sp : Nat → Bool} {hd : Bool} {fuel : Nat} {cs : List Value} {x : DataW H × List MemPlace} (h : DataW.trod enc Tryz.prog W base sp hd fuel 24 cs = some x) :
    ∃ (k : Int) (s : ByteArray) (n a : Int) (v : Value) (m : Nat) (y : DataW H × List MemPlace), fuel = m + 1 ∧ cs = [.int .i64 k, .string s, .int .i64 n, .int .i64 a, v] ∧ DataW.trod enc Tryz.prog W base sp hd m 22 [v] = some y ∧
      x = (.agg [.lit (.int .i64 k), .lit (.string s.data.toList), .lit (.int .i64 n), .lit (.int .i64 a), y.1], y.2) := by
  obtain ⟨xs, m, e, hx, hl, hlen, hf⟩ := DataW.trod_struct Tryz.underlying24 h
  rw [cT5] at hl
  match cs, hl with
  | [c0, c1, c2, c3, c4], _ =>
  match xs, hlen with
  | [x0, x1, x2, x3, x4], _ =>
  have h0 := hf 0 { name := "Kind", type := 3, offset := 0, embedded := false, tag := "", pkgPath := "", byteOffset := 0 } rfl
  have h1 := hf 1 { name := "Name", type := 9, offset := 1, embedded := false, tag := "", pkgPath := "", byteOffset := 8 } rfl
  have h2 := hf 2 { name := "N", type := 3, offset := 2, embedded := false, tag := "", pkgPath := "", byteOffset := 24 } rfl
  have h3 := hf 3 { name := "At", type := 3, offset := 3, embedded := false, tag := "", pkgPath := "", byteOffset := 32 } rfl
  have h4 := hf 4 { name := "L", type := 22, offset := 4, embedded := false, tag := "", pkgPath := "", byteOffset := 40 } rfl
  dsimp only at h0 h1 h2 h3 h4
  rw [c3_1] at h0 h2 h3
  rw [c9_1] at h1
  rw [cL1] at h4
  dsimp at h0 h1 h2 h3 h4
  obtain ⟨k, e0, y0, _⟩ := DataW.trod_int Tryz.underlying3 h0
  obtain ⟨s, e1, y1, _⟩ := DataW.trod_string Tryz.underlying9 h1
  obtain ⟨n, e2, y2, _⟩ := DataW.trod_int Tryz.underlying3 h2
  obtain ⟨a, e3, y3, _⟩ := DataW.trod_int Tryz.underlying3 h3
  obtain rfl := (List.cons.inj e0).1
  obtain rfl := (List.cons.inj e1).1
  obtain rfl := (List.cons.inj e2).1
  obtain rfl := (List.cons.inj e3).1
  subst y0 y1 y2 y3
  refine ⟨k, s, n, a, c4, m, x4, e, rfl, ?_, ?_⟩
  · exact h4
  · rw [hx]; simp
theorem row_of {Q : Nat → Tr → Prop} : ∀ (n : Nat), (∀ i, i < n → ∃ t, Q i t) → ∃ l : List Tr, l.length = n ∧ ∀ (i : Nat) (hi : i < l.length), Q i (l[i]'hi)
  | 0, _ => ⟨[], rfl, fun i hi => by simp at hi⟩
  | n + 1, h => by
    obtain ⟨l, hl, hq⟩ := row_of n fun i hi => h i (by omega)
    obtain ⟨t, ht⟩ := h n (by omega)
    refine ⟨l ++ [t], by simp [hl], fun i hi => ?_⟩
    rcases Nat.lt_or_ge i l.length with hlt | hge
    · rw [List.getElem_append_left hlt]; exact hq i hlt
    · have e : i = n := by simp at hi; omega
      subst e
      rw [List.getElem_append_right (by omega)]
      simpa [hl] using ht
theorem spot_none {w : World} {a : Addr} {v : Value} (h : w.cell? a = some v) : a.spot = none := by
  unfold World.cell? at h
  split at h
  · split at h
    · cases h
    · rename_i hs; simpa using hs
  · cases h
theorem weightsAll_mem {P : Program} {e : TypeId} : ∀ (L : List (DataW H)) (d : DataW H), d ∈ L → ∀ q ∈ DataW.weights P e d, q ∈ DataW.weightsAll P e L
  | [], d, h, _, _ => by cases h
  | a :: r, d, h, q, hq => by
    rw [DataW.weightsAll, List.mem_append]
    rcases List.mem_cons.1 h with rfl | h
    · exact .inl hq
    · exact .inr (weightsAll_mem r d h q hq)
/-- What reads as a tree is one. -/
theorem open_tree {W : World} {base : Nat} {sp : Nat → Bool} {hd : Bool} : ∀ (N fuel : Nat), fuel ≤ N → ∀ {cs : List Value} {x : DataW H × List MemPlace}, DataW.trod enc Tryz.prog W base sp hd fuel 24 cs = some x →
    (∀ k ∈ DataW.weights Tryz.prog 24 x.1, k ≤ reachBytes) → ∃ t A c, cs = cellsT t A c ∧ TIn W Any t A := by
  intro N
  induction N with
  | zero => intro fuel hf cs x h; obtain ⟨_, _, _, _, _, m, _, e, _⟩ := open_parts h; omega
  | succ N ih =>
    intro fuel hf cs x h hw
    obtain ⟨k, s, n, a, v, m, y, e, rfl, hv, rfl⟩ := open_parts h
    have hwv : ∀ q ∈ DataW.weights Tryz.prog 22 y.1, q ≤ reachBytes := fun q hq => hw q (by
      rw [DataW.weights, Tryz.underlying24]
      simp [DataW.weightsEach, DataW.weights, hq])
    have hs : s.size ≤ 140737488351232 := by
      have := hw s.data.toList.length (by
        rw [DataW.weights, Tryz.underlying24]
        simp [DataW.weightsEach, DataW.weights])
      simpa [reachBytes] using this
    rcases DataW.trod_slice Tryz.underlying22 hv with ⟨e1, rfl⟩ | ⟨p, len, cap, elems, rest, m', em, e1, rfl, hb, hl, hm, hlen, hel, _, _⟩
    · obtain rfl := (List.cons.inj e1).1
      exact ⟨.node k s n a [], none, 0, rfl, TIn.leaf hs⟩
    · obtain rfl := (List.cons.inj e1).1
      have hwe : ∀ (i : Nat) (y' : DataW H × List MemPlace), elems[i]? = some y' → ∀ q ∈ DataW.weights Tryz.prog 24 y'.1, q ≤ reachBytes := fun i y' hy q hq => hwv q (by
        rw [DataW.weights, Tryz.underlying22]
        have := weightsAll_mem (elems.map (·.1)) y'.1 (List.mem_map_of_mem (List.mem_of_getElem? hy)) q hq
        simp [this])
      have hlen' : len ≤ 140737488351232 := by
        have := hwv ((elems.length + rest.length) * 64) (by
          rw [DataW.weights, Tryz.underlying22]
          simp [bT64])
        have : (elems.length + rest.length) * 64 ≤ 140737488351232 := this
        omega
      obtain ⟨l, hll, hq⟩ := row_of (Q := fun i t => ∃ A c, W.cells? base (p.add (i * 5)) 5 = some (cellsT t A c) ∧ TIn W Any t A) len fun i hi => by
        have h1 := hel i hi
        rw [cT5] at h1
        obtain ⟨y', hy'⟩ : ∃ y', elems[i]? = some y' := ⟨_, List.getElem?_eq_getElem (by omega)⟩
        rw [hy', Option.bind_eq_some_iff] at h1
        obtain ⟨cs', hc', ht'⟩ := h1
        obtain ⟨t, A, c, rfl, hT⟩ := ih m' (by omega) ht' (hwe i y' hy')
        exact ⟨t, A, c, hc', hT⟩
      subst hll
      refine ⟨.node k s n a l, some p, cap, (by simp only [cellsT, Tr.kind, Tr.name, Tr.n, Tr.place, Tr.parts]; rw [capF_of hl]), TIn.mk hs hlen' ?_⟩
      cases l with
      | nil => trivial
      | cons t0 r =>
        have hps : p.spot = none := by
          obtain ⟨A, c, hc, _⟩ := hq 0 (by simp)
          have := cells?_get hc 0 (by omega)
          have := spot_none (this.trans (rfl : (cellsT _ _ _)[0]? = some _))
          simpa [Addr.add] using this
        obtain ⟨pb, po, ps⟩ := p
        dsimp only at hps
        subst hps
        refine LIn.mk (t0 :: r) 0 fun i hi => ?_
        obtain ⟨A, c, hc, hT⟩ := hq i hi
        have hcell : ∀ j, j < 5 → W.cell? ⟨pb, po + i * 5 + j, none⟩ = (cellsT ((t0 :: r)[i]'hi) A c)[j]? := fun j hj => by
          have ea : ((⟨pb, po, none⟩ : Addr).add (i * 5)).add j = ⟨pb, po + i * 5 + j, none⟩ := by
            by_cases hi0 : i * 5 = 0 <;> by_cases hj0 : j = 0 <;> simp [Addr.add, hi0, hj0]
          rw [← cells?_get hc j hj, ea]
        rw [Nat.zero_add]
        exact ⟨pb, po, A, c, ⟨rfl, trivial⟩, hcell 0 (by omega), hcell 1 (by omega), hcell 2 (by omega), hcell 3 (by omega), hcell 4 (by omega), hT⟩
end
end Lx
end Go.Proofs.YtobdoahdjbmflaaGreatDoor
namespace Go.Proofs.YtobdoahdjbmflaaGreatDoor
open Go.ChangeShapes Go.WideShapes Go.ChangeAt Go.RowKit
namespace Lx
set_option maxRecDepth 100000
section
variable {H : Type} {enc : TypeId × Value → H}
/-- The end of a row without variables whose call left all that was there as it was. -/
theorem post_left {P : Program} {f : Func} {s : ChangeSpec} {apart fresh handsOn again : Bool} {W W' : World} {args : Array Value} {v : Value} {ds : List (DataW H)} {before : List MemPlace}
    (hW : DataW.Whole enc P f.params.toList s.vars apart W args.toList ds [] before)
    (hres : ∀ (b : Nat) (sp : Nat → Bool) (hd : Bool), DataW.TrodAll enc P W' b sp hd f.resultTypes.toList (v.resultList f.resultTypes.size) (s.fn H (ds ++ [])).results [])
    (hargs : ∀ sp : Nat → Bool, (∀ p ∈ before, sp p.block = true) → DataW.TrodAll enc P W' 0 sp true f.params.toList args.toList (s.fn H (ds ++ [])).args before)
    (hvars : ∀ sp : Nat → Bool, DataW.TrodVars enc P W' sp s.vars (s.fn H (ds ++ [])).vars [])
    (hb : Below W.heap.size W W')
    (hok : ∀ (j : Nat) (t : TypeId) (r : Value), f.resultTypes[j]? = some t → (v.resultList f.resultTypes.size)[j]? = some r → Value.okWide P W' .any 0 t r) :
    s.post enc P f apart fresh handsOn again W args v W' := by
  have hlt : ∀ p ∈ before, p.block < W.heap.size := fun p hp => hW.lt p hp
  refine ⟨ds, [], before, [], before, [], hW, hres _ _ _, hargs _ (fun p hp => by simpa using hlt p hp), hvars _, World.keptBut_mono (fun p hp => ⟨hp, .inr (.inl hp)⟩) (hb.frame (· ∈ before)), fun _ => ?_⟩
  obtain ⟨_, _, _, _, _, hz, hn⟩ := hW
  refine ⟨hok, _, _, ([] ++ before) ++ [], ⟨[] ++ before, [], trodAll_append (hargs _ (fun _ _ => rfl)) (hres _ _ _), hvars _, rfl, ?_, ?_⟩, ?_⟩
  · intro b off hp
    have hin : MemPlace.cell b off ∈ before := by simpa using hp
    rw [hb.frozen (hlt _ hin)]
    exact hz b off hin
  · intro ha
    simpa using hn ha
  · intro p hp _
    simpa using hp
/-- A tree among the arguments. -/
theorem tree_arg {W : World} {base b0 : Nat} {sp : Nat → Bool} {hd : Bool} {v : Value} {d : DataW H} {ps : List MemPlace} (hval : Value.okWide Tryz.prog W .any b0 24 v)
    (h : DataW.Trod enc Tryz.prog W base sp hd 24 v d ps) (hw : ∀ k ∈ DataW.weights Tryz.prog 24 d, k ≤ reachBytes) : ∃ t A c, v = tv t A c ∧ TIn W Any t A := by
  obtain ⟨cs, rfl, _⟩ := okWide_struct Tryz.underlying24 hval
  obtain ⟨fuel, hf⟩ := h
  obtain ⟨t, A, c, hcs, hT⟩ := open_tree fuel fuel (Nat.le_refl _) hf hw
  refine ⟨t, A, c, ?_, hT⟩
  have : cs = #[.int .i64 t.kind, .string t.name, .int .i64 t.n, .int .i64 t.place, .slice A t.parts.length (capF t.parts.length c)] := Array.ext' hcs
  rw [this]
  rfl
/-- It reads behind the call as it read before. -/
theorem tree_again {W W' : World} {v : Value} {d : DataW H} {ps : List MemPlace} (h : DataW.Trod enc Tryz.prog W 0 (fun _ => true) true 24 v d ps) (hb : Below W.heap.size W W') (hlt : ∀ x ∈ ps, x.block < W.heap.size)
    {sp : Nat → Bool} (hs : ∀ x ∈ ps, sp x.block = true) : DataW.Trod enc Tryz.prog W' 0 sp true 24 v d ps :=
  WideElems.Trod_stays (by kernel_rfl) (by kernel_rfl) (of_decide_eq_true (by kernel_rfl)) h (fun x hx => hb.same (hlt x hx)) hs
end
end Lx
end Go.Proofs.YtobdoahdjbmflaaGreatDoor
namespace Go.Proofs.YtobdoahdjbmflaaGreatDoor
namespace Lx
set_option maxRecDepth 100000
/-- Is s at most x? -/
def leN (s x : ByteArray) : Bool := decide (s.data.toList ≤ x.data.toList)
theorem leN_refl (s : ByteArray) : leN s s = true := by
  unfold leN
  exact decide_eq_true ((List.le_total s.data.toList s.data.toList).elim id id)
theorem leN_trans {a b c : ByteArray} (h : leN a b = true) (k : leN b c = true) : leN a c = true := by
  unfold leN at h k ⊢
  rw [decide_eq_true_eq] at h k ⊢
  exact List.le_trans h k
theorem leN_total {a b : ByteArray} (h : ¬ leN a b = true) : leN b a = true := by
  unfold leN at h ⊢
  rw [decide_eq_true_eq] at h ⊢
  exact (List.le_total _ _).resolve_left h
theorem leN_anti {a b : ByteArray} (h : leN a b = true) (k : leN b a = true) : a = b := by
  unfold leN at h k
  rw [decide_eq_true_eq] at h k
  have e := List.le_antisymm h k
  rw [← ba_back a, ← ba_back b, e]
/-- A name more, at its place. -/
def insN (s : ByteArray) : List ByteArray → List ByteArray
  | [] => [s]
  | x :: r => if leN s x = true then s :: (x :: r).filter (fun y => decide (y ≠ s)) else x :: insN s r
/-- What the loop does with one name. -/
def stepN (s : ByteArray) (st : List ByteArray × Bool) (x : ByteArray) : List ByteArray × Bool :=
  ((if st.2 = false ∧ leN s x = true then st.1 ++ [s] else st.1) ++ (if x = s then [] else [x]), st.2 || leN s x)
theorem step_true (s : ByteArray) : ∀ (l o : List ByteArray), l.foldl (stepN s) (o, true) = (o ++ l.filter (fun y => decide (y ≠ s)), true)
  | [], o => by simp
  | x :: r, o => by
    rw [List.foldl_cons]
    have e : stepN s (o, true) x = (o ++ (if x = s then [] else [x]), true) := by simp [stepN]
    rw [e, step_true s r, List.filter_cons]
    by_cases h : x = s
    · simp [h]
    · simp [h]
/-- What the loop leaves, with the name behind, if it wasn't put in. -/
def endN (s : ByteArray) (st : List ByteArray × Bool) : List ByteArray := if st.2 = true then st.1 else st.1 ++ [s]
theorem step_end (s : ByteArray) : ∀ (l o : List ByteArray), endN s (l.foldl (stepN s) (o, false)) = o ++ insN s l
  | [], o => by simp [endN, insN]
  | x :: r, o => by
    rw [List.foldl_cons, insN]
    by_cases h : leN s x = true
    · have e : stepN s (o, false) x = (o ++ [s] ++ (if x = s then [] else [x]), true) := by simp [stepN, h]
      rw [e, step_true, if_pos h, endN, if_pos rfl, List.filter_cons]
      by_cases hx : x = s
      · simp [hx]
      · simp [hx]
    · have hne : ¬ x = s := fun e => h (e ▸ leN_refl s)
      have e : stepN s (o, false) x = (o ++ [x], false) := by simp [stepN, h, hne]
      rw [e, step_end s r, if_neg h, List.append_assoc]
      rfl
theorem ins_mem (s x : ByteArray) : ∀ l : List ByteArray, x ∈ insN s l ↔ x = s ∨ x ∈ l
  | [] => by simp [insN]
  | y :: r => by
    rw [insN]
    split
    · rw [List.mem_cons, List.mem_filter]
      constructor
      · rintro (h | h)
        · exact .inl h
        · exact .inr h.1
      · rintro (h | h)
        · exact .inl h
        · by_cases e : x = s
          · exact .inl e
          · exact .inr ⟨h, by simpa using e⟩
    · rw [List.mem_cons, ins_mem s x r, List.mem_cons]
      exact ⟨fun h => h.elim (fun h => .inr (.inl h)) (fun h => h.elim .inl fun h => .inr (.inr h)), fun h => h.elim (fun h => .inr (.inl h)) fun h => h.elim .inl fun h => .inr (.inr h)⟩
def riseN (l : List ByteArray) : Prop := l.Pairwise (fun a b => leN a b = true) ∧ l.Nodup
theorem ins_rise (s : ByteArray) : ∀ l : List ByteArray, riseN l → riseN (insN s l)
  | [], _ => by simp [insN, riseN]
  | y :: r, h => by
    obtain ⟨h1, h2⟩ := h
    rw [insN]
    have h1' := List.pairwise_cons.1 h1
    have h2' := List.nodup_cons.1 h2
    split
    · rename_i hl
      refine ⟨List.pairwise_cons.2 ⟨fun x hx => ?_, h1.sublist List.filter_sublist⟩, List.nodup_cons.2 ⟨fun hm => by simpa using (List.mem_filter.1 hm).2, h2.sublist List.filter_sublist⟩⟩
      rcases List.mem_cons.1 (List.mem_filter.1 hx).1 with rfl | hx
      · exact hl
      · exact leN_trans hl (h1'.1 x hx)
    · rename_i hl
      have ih := ins_rise s r ⟨h1'.2, h2'.2⟩
      refine ⟨List.pairwise_cons.2 ⟨fun x hx => ?_, ih.1⟩, List.nodup_cons.2 ⟨fun hm => ?_, ih.2⟩⟩
      · rcases (ins_mem s x r).1 hx with rfl | hx
        · exact leN_total hl
        · exact h1'.1 x hx
      · rcases (ins_mem s y r).1 hm with rfl | hm
        · exact hl (leN_refl _)
        · exact h2'.1 hm
def insAll (l : List ByteArray) (L : List ByteArray) : List ByteArray := L.foldl (fun l s => insN s l) l
theorem insAll_rise : ∀ (L l : List ByteArray), riseN l → riseN (insAll l L)
  | [], _l, h => h
  | s :: r, l, h => insAll_rise r (insN s l) (ins_rise s l h)
theorem insAll_mem (x : ByteArray) : ∀ (L l : List ByteArray), x ∈ insAll l L ↔ x ∈ l ∨ x ∈ L
  | [], l => by simp [insAll]
  | s :: r, l => by
    rw [show insAll l (s :: r) = insAll (insN s l) r from rfl, insAll_mem x r, ins_mem, List.mem_cons]
    exact ⟨fun h => h.elim (fun h => h.elim (fun h => .inr (.inl h)) .inl) fun h => .inr (.inr h), fun h => h.elim (fun h => .inl (.inr h)) fun h => h.elim (fun h => .inl (.inl h)) .inr⟩
theorem insAll_app (l a b : List ByteArray) : insAll l (a ++ b) = insAll (insAll l a) b := by unfold insAll; rw [List.foldl_append]
theorem sortB_rise (l : List ByteArray) : (sortB l).Pairwise (fun a b => leN a b = true) := by
  unfold sortB
  rw [List.pairwise_map]
  have h := List.pairwise_mergeSort (le := fun x y : List UInt8 => decide (x ≤ y)) (fun a b c h k => decide_eq_true (List.le_trans (of_decide_eq_true h) (of_decide_eq_true k)))
    (fun a b => by
      rw [Bool.or_eq_true, decide_eq_true_eq, decide_eq_true_eq]
      exact List.le_total a b) (l.map fun s => s.data.toList)
  refine h.imp fun {a b} hab => ?_
  unfold leN
  simpa using hab
/-- What the document's answer tells is what is told. -/
theorem insAll_free (t : Tr) : insAll [] (looseT [] t) = freeT t := by
  have h1 := insAll_rise (looseT [] t) [] ⟨List.Pairwise.nil, List.nodup_nil⟩
  have h2 : (insAll [] (looseT [] t)).Perm (freeT t) := (List.perm_ext_iff_of_nodup h1.2 (free_nodup t)).2 fun x => by
    rw [insAll_mem, free_mem]
    simp
  exact List.Perm.eq_of_pairwise (fun a b _ _ h k => leN_anti h k) h1.1 (sortB_rise _) h2
theorem ins_len (s : ByteArray) : ∀ l : List ByteArray, (insN s l).length ≤ l.length + 1
  | [] => by simp [insN]
  | x :: r => by
    rw [insN]
    split
    · have := List.length_filter_le (fun y => decide (y ≠ s)) (x :: r)
      rw [List.length_cons]
      simp only [List.length_cons] at this ⊢
      omega
    · have := ins_len s r
      simp only [List.length_cons]
      omega
theorem insAll_len : ∀ (L l : List ByteArray), (insAll l L).length ≤ l.length + L.length
  | [], l => by simp [insAll]
  | s :: r, l => by
    have h1 := insAll_len r (insN s l)
    have h2 := ins_len s l
    rw [show insAll l (s :: r) = insAll (insN s l) r from rfl, List.length_cons]
    omega
end Lx
end Go.Proofs.YtobdoahdjbmflaaGreatDoor
