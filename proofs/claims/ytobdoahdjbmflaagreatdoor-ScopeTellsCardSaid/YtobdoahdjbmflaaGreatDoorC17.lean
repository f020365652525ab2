/-
  Texts that lie one behind the other: GStore GAtom GLam GBld.
-/
import Derived.Test.YtobdoahdjbmflaaGreatDoorC16
import Derived.Test.YtobdoahdjbmflaaGreatDoorC1
import Derived.Deep.MidRow
import Derived.Deep.RegionHeld
import Derived.Deep.Cut
namespace Go.Proofs.YtobdoahdjbmflaaGreatDoor
open Go.RowKit
namespace Lx
set_option maxRecDepth 100000
theorem wpList_store7 {ops : Array Oper} {rest : List Oper} {op : Oper} {ac : Act} {w : World} {Q : Exit → Act → World → Prop} (x y : Operand) (hgd : op.guard = none) (ho : op.op = .store 68 x y)
    {g : Nat} {a b c d e u v a' b' c' d' e' u' v' : Value} {t : TypeId} (hx : ac.eval x = .pointer (some ⟨g, 0, none⟩)) (hy : ac.eval y = .agg #[a, b, c, d, e, u, v]) (L : Lies w g t #[a', b', c', d', e', u', v'])
    (h1 : (#[a, b, c, d, e, u, v] : Array Value).all (·.oneCell') = true)
    (h : wpList Tryz.prog ops Q rest (ac.put op.dst undef) (put7 w g a b c d e u v)) : wpList Tryz.prog ops Q (op :: rest) ac w := by
  refine wpList_store_mid hgd _ x y ho g 0 _ hx hy ?_ (by kernel_rfl) h1 h
  intro j hj
  have hj' : j < 7 := hj
  constructor
  · rw [Nat.zero_add, L.cell j]
    rw [Array.getElem?_eq_getElem (show j < (#[a', b', c', d', e', u', v'] : Array Value).size from hj')]
    rfl
  · rw [Nat.zero_add]
    exact L.frozen j
end Lx
end Go.Proofs.YtobdoahdjbmflaaGreatDoor
namespace Go.Proofs.YtobdoahdjbmflaaGreatDoor
open Go.RowKit
namespace Lx
set_option maxRecDepth 100000
theorem GTok.leaf {l : List Tok} {n : Nat} (T : GTok l n) (i : Nat) (k num a : Int) (w : World) (X : Nat → Prop) : TIn w X (.node k (nmAt l i) num a []) none := by
  rw [TIn]
  exact ⟨T.small i, by simp, by rw [LIn]; trivial⟩
theorem leaf0 (k num a : Int) (w : World) (X : Nat → Prop) : TIn w X (.node k ⟨#[]⟩ num a []) none := by
  rw [TIn]
  exact ⟨by decide, by simp, by rw [LIn]; trivial⟩
theorem Lies.far7 {w : World} {g : Nat} {t : TypeId} {cs : Array Value} (h : Lies w g t cs) {r : Nat} (hr : g ≠ r) (a b c d e x y : Value) : Lies (put7 w r a b c d e x y) g t cs :=
  ((((((h.far (p := ⟨r, 0, none⟩) hr a).far (p := ⟨r, 1, none⟩) hr b).far (p := ⟨r, 2, none⟩) hr c).far (p := ⟨r, 3, none⟩) hr d).far (p := ⟨r, 4, none⟩) hr e).far (p := ⟨r, 5, none⟩) hr x).far (p := ⟨r, 6, none⟩) hr y
theorem gno_lit (j : Nat) (w : World) : Calls Tryz.prog 88 #[.int .i64 j] w fun e w' => e = .returned (.agg #[.int .i64 0, .string ⟨#[]⟩, .int .i64 0, .int .i64 0, .slice none 0 0, .int .i64 j, .bool false]) ∧ Below w.heap.size w w' := gno_any j w
theorem gpost_leaf {w V : World} {r : GR} {k num a : Int} {s : ByteArray} {i : Nat} (hr : r = .ok (.node k s num a [], i + 1)) (hb : Below w.heap.size w V) (hT : TIn V (fun g => w.heap.size + 1 ≤ g) (.node k s num a []) none) :
    GPost w r (.returned (.agg #[.int .i64 k, .string s, .int .i64 num, .int .i64 a, .slice none 0 0, .int .i64 ((i : Int) + 1), .bool true]))
      (put7 V w.heap.size (.int .i64 k) (.string s) (.int .i64 num) (.int .i64 a) (.slice none 0 0) (.int .i64 ((i : Int) + 1)) (.bool true)) := by
  have h := gpost_ok (c := 0) hr hb hT
  rw [show (((i + 1 : Nat) : Int)) = (i : Int) + 1 from by simp] at h
  have h2 := h
  unfold gv at h2
  simp only [Tr.kind, Tr.name, Tr.n, Tr.place, Tr.parts, List.length_nil, capF, Nat.max_self] at h2
  rw [show (((i + 1 : Nat) : Int)) = (i : Int) + 1 from by simp] at h2
  exact h2
set_option maxHeartbeats 4000000 in
theorem gatom_any {l : List Tok} {A : Option Addr} {n c f : Nat} (T : GTok l n) (HX0 : GC 37 l A n c 7 gExpr f) :
    GC 101 l A n c 1 gAtom (f + 1) := by
  intro i x w hx hi hf hR
  subst hx
  have h6 := T.few
  have hb0 := below_seven (w := w)
  have hR1 := hR.at_new hb0
  have HX := Lib.hid (gtext_any l A n c i (w.alloc (.cells zero7 68)) T.len (by omega) h6 hR1)
  have HK := Lib.hid (gkind_any l A n c i (w.alloc (.cells zero7 68)) T.len (by omega) h6 hR1)
  have hL := Lies.new w 68 zero7
  by_cases hp : xAt l i = [40]
  · have hlt : i < n := by rw [T.len]; exact xAt_lt hp (by simp)
    have HC := Lib.hid (HX0 (i + 1) ((i : Int) + 1) (w.alloc (.cells zero7 68)) (by simp) (by omega) (by omega) hR1)
    rw [hp] at HX
    have HE : Hid (gAtom (f + 1) l i = (match gExpr f l (i + 1) with | .error j => .error j | .ok (a, j) => if xAt l j ≠ [41] then .error j else .ok (a, j + 1))) := by
      refine Lib.hid ?_
      rw [gAtom, if_pos (by rw [hp]; rfl)]
      all_goals (cases gExpr f l (i + 1) <;> rfl)
    clear hp
    go_enter Tryz.func101, Tryz.ntmps101
    go_wp2_with fail
    refine HX.out.mono ?_
    rintro e w' ⟨rfl, rfl⟩
    go_wp2_with fail
    refine HC.out.mono ?_
    intro e V hG
    have hb := hb0.trans (hG.1.mono hb0.size)
    have L := hL.below hG.1 (by simp)
    have hsz := hG.1.size
    have hne : w.heap.size ≠ V.heap.size := by simp at hsz; omega
    have hRV := hR.below hb (Nat.le_refl _)
    rcases hG.split with ⟨j, hr, rfl⟩ | ⟨t, j, A2, c2, hr, rfl, hT⟩
    · rw [hr] at HE
      have hj := (err_all f).expr l (i + 1) j hr
      have hjs : j ≤ 60002 := by have := T.len; omega
      clear hj
      have L9 := L.old (.cells #[.int .i64 0, .string ⟨#[]⟩, .int .i64 0, .int .i64 0, .slice none 0 0, .int .i64 j, .bool false] 68)
      have q9 := L9.seven
      have hb9 := hb.alloc hb.size (.cells #[.int .i64 0, .string ⟨#[]⟩, .int .i64 0, .int .i64 0, .slice none 0 0, .int .i64 j, .bool false] 68)
      go_wp2_with fail
      exact bodyPost_ret (res_got (p := 4) Tryz.results101 rfl (Lies.all7 L9 _ _ _ _ _ _ _)) rfl (gpost_err HE.out hb9)
    · rw [hr] at HE
      have hj := (prog_all f).expr l (i + 1) t j hr
      have hjs : j ≤ 60000 := by have := T.len; omega
      have hjn : j ≤ n := by have := T.len; omega
      clear hj
      have hb8 : Below V.heap.size V (V.alloc (.cells #[.int .i64 t.kind, .string t.name, .int .i64 t.n, .int .i64 t.place, .slice A2 t.parts.length (capF t.parts.length c2), .int .i64 j, .bool true] 68)) := (Below.refl _ V).alloc (Nat.le_refl _) _
      have HX2 := Lib.hid (gtext_any l A n c j (V.alloc (.cells #[.int .i64 t.kind, .string t.name, .int .i64 t.n, .int .i64 t.place, .slice A2 t.parts.length (capF t.parts.length c2), .int .i64 j, .bool true] 68)) T.len (by omega) h6 (hRV.at_new hb8))
      have L8 := L.old (.cells #[.int .i64 t.kind, .string t.name, .int .i64 t.n, .int .i64 t.place, .slice A2 t.parts.length (capF t.parts.length c2), .int .i64 j, .bool true] 68)
      by_cases hq : xAt l j = [41]
      · rw [hq] at HX2
        have HE2 : Hid (gAtom (f + 1) l i = .ok (t, j + 1)) := by
          refine Lib.hid (HE.out.trans ?_)
          show (if xAt l j ≠ [41] then (.error j : GR) else .ok (t, j + 1)) = _
          rw [if_neg (fun h => h hq)]
        clear hq
        have L9 := L.old (.cells #[.int .i64 t.kind, .string t.name, .int .i64 t.n, .int .i64 t.place, .slice A2 t.parts.length (capF t.parts.length c2), .int .i64 ((j : Int) + 1), .bool true] 68)
        have q9 := L9.seven
        have hb9 : Below V.heap.size V (V.alloc (.cells #[.int .i64 t.kind, .string t.name, .int .i64 t.n, .int .i64 t.place, .slice A2 t.parts.length (capF t.parts.length c2), .int .i64 ((j : Int) + 1), .bool true] 68)) := (Below.refl _ V).alloc (Nat.le_refl _) _
        have hT9 := TIn.below t (TIn.wide t (Y := fun g => w.heap.size + 1 ≤ g) hT (fun g hg _ => by simpa using hg)) hb9 (Nat.le_refl _)
        go_wp2_with fail
        refine HX2.out.mono ?_
        rintro e w' ⟨rfl, rfl⟩
        go_wp2_with fail
        exact bodyPost_ret (res_got (p := 4) Tryz.results101 rfl (Lies.all7 L9 _ _ _ _ _ _ _)) rfl (gpost_ok (j := j + 1) HE2.out (hb.trans (hb9.mono hb.size)) hT9)
      · have HE2 : Hid (gAtom (f + 1) l i = .error j) := by
          refine Lib.hid (HE.out.trans ?_)
          show (if xAt l j ≠ [41] then (.error j : GR) else .ok (t, j + 1)) = _
          rw [if_pos hq]
        obtain ⟨X, hX⟩ : ∃ X, X = xAt l j := ⟨_, rfl⟩
        rw [← hX] at HX2 hq
        clear hX HE
        have b0 : (X == [41]) = false := beq_eq_false_iff_ne.2 hq
        have HN := Lib.hid (gno_lit j (V.alloc (.cells #[.int .i64 t.kind, .string t.name, .int .i64 t.n, .int .i64 t.place, .slice A2 t.parts.length (capF t.parts.length c2), .int .i64 j, .bool true] 68)))
        go_wp2_with fail
        refine HX2.out.mono ?_
        rintro e w' ⟨rfl, rfl⟩
        go_wp2_with fail
        refine HN.out.mono ?_
        rintro e V2 ⟨rfl, hb2⟩
        have L9 := L8.below hb2 L8.lt
        have q9 := L9.seven
        have hb9 := (hb.trans (hb8.mono hb.size)).trans (hb2.mono (by have := hb.size; have := hb8.size; omega))
        go_wp2_with fail
        exact bodyPost_ret (res_got (p := 4) Tryz.results101 rfl (Lies.all7 L9 _ _ _ _ _ _ _)) rfl (gpost_err HE2.out hb9)
  · obtain ⟨X, hX⟩ : ∃ X, X = xAt l i := ⟨_, rfl⟩
    rw [← hX] at HX
    have b0 : (X == [40]) = false := beq_eq_false_iff_ne.2 (by rw [hX]; exact hp)
    clear hX
    by_cases hk1 : kAt l i = 1
    · have hlt : i < l.length := kAt_lt (by omega)
      have hlt' : i < n := by rw [T.len]; exact hlt
      have HE : Hid (gAtom (f + 1) l i = .ok (.node 1 (nmAt l i) 0 (plAt l i) [], i + 1)) := by
        refine Lib.hid ?_
        rw [gAtom, if_neg (by simpa using hp), if_pos hk1]
      obtain ⟨g, o, rfl, c0, c1, c2, c3⟩ := hR1.get hlt
      rw [hk1] at HK
      clear hk1 c0
      have HY := Lib.hid (fun V => gyes_at 1 0 (plAt l i) (nmAt l i) none 0 0 (i + 1) ((i : Int) + 1) V (by simp))
      have HLf := Lib.hid (fun V X => T.leaf i 1 0 (plAt l i) V X)
      have HL0 := Lib.hid (fun V X => leaf0 9 (nuAt l i) (plAt l i) V X)
      obtain ⟨NM, hNM⟩ : ∃ NM, NM = nmAt l i := ⟨_, rfl⟩
      obtain ⟨NU, hNU⟩ : ∃ NU, NU = nuAt l i := ⟨_, rfl⟩
      obtain ⟨PL, hPL⟩ : ∃ PL, PL = plAt l i := ⟨_, rfl⟩
      rw [← hNM] at c1 HE HY HLf
      rw [← hNU] at c2
      rw [← hPL] at c3 HE HY HLf HL0
      clear hNM hNU hPL hR1 hR T
      go_enter Tryz.func101, Tryz.ntmps101
      go_wp2_with fail
      refine HX.out.mono ?_
      rintro e w' ⟨rfl, rfl⟩
      go_wp2_with fail
      refine HK.out.mono ?_
      rintro e w' ⟨rfl, rfl⟩
      go_wp2_with fail
      generalize hW : (w.alloc (.cells zero7 68)) = wr at hb0 hL c1 c2 c3 ⊢
      clear hW HX HK
      go_still_tail 13, (by kernel_rfl)
      change wpList _ _ _ _ _ wr.drew
      go_wp2_with fail
      refine (HY.out _).mono ?_
      rintro e V ⟨rfl, hb2⟩
      have hb := (hb0.drew).trans (hb2.mono (by exact hb0.size))
      have L9 := (hL.drew).below hb2 hL.lt
      have q9 := L9.seven
      go_wp2_with fail
      exact bodyPost_ret (res_got (p := 4) Tryz.results101 rfl (Lies.all7 L9 _ _ _ _ _ _ _)) rfl (gpost_leaf HE.out hb (HLf.out _ _))
    by_cases hk2 : kAt l i = 2
    · have hlt : i < l.length := kAt_lt (by omega)
      have hlt' : i < n := by rw [T.len]; exact hlt
      have HE : Hid (gAtom (f + 1) l i = .ok (.node 6 (nmAt l i) 0 (plAt l i) [], i + 1)) := by
        refine Lib.hid ?_
        rw [gAtom, if_neg (by simpa using hp), if_neg hk1, if_pos hk2]
      obtain ⟨g, o, rfl, c0, c1, c2, c3⟩ := hR1.get hlt
      rw [hk2] at HK
      clear hk2 c0
      have HY := Lib.hid (fun V => gyes_at 6 0 (plAt l i) (nmAt l i) none 0 0 (i + 1) ((i : Int) + 1) V (by simp))
      have HLf := Lib.hid (fun V X => T.leaf i 6 0 (plAt l i) V X)
      have HL0 := Lib.hid (fun V X => leaf0 9 (nuAt l i) (plAt l i) V X)
      obtain ⟨NM, hNM⟩ : ∃ NM, NM = nmAt l i := ⟨_, rfl⟩
      obtain ⟨NU, hNU⟩ : ∃ NU, NU = nuAt l i := ⟨_, rfl⟩
      obtain ⟨PL, hPL⟩ : ∃ PL, PL = plAt l i := ⟨_, rfl⟩
      rw [← hNM] at c1 HE HY HLf
      rw [← hNU] at c2
      rw [← hPL] at c3 HE HY HLf HL0
      clear hNM hNU hPL hR1 hR T
      go_enter Tryz.func101, Tryz.ntmps101
      go_wp2_with fail
      refine HX.out.mono ?_
      rintro e w' ⟨rfl, rfl⟩
      go_wp2_with fail
      refine HK.out.mono ?_
      rintro e w' ⟨rfl, rfl⟩
      go_wp2_with fail
      generalize hW : (w.alloc (.cells zero7 68)) = wr at hb0 hL c1 c2 c3 ⊢
      clear hW HX HK
      go_still_tail 13, (by kernel_rfl)
      change wpList _ _ _ _ _ wr.drew
      go_wp2_with fail
      refine (HY.out _).mono ?_
      rintro e V ⟨rfl, hb2⟩
      have hb := (hb0.drew).trans (hb2.mono (by exact hb0.size))
      have L9 := (hL.drew).below hb2 hL.lt
      have q9 := L9.seven
      go_wp2_with fail
      exact bodyPost_ret (res_got (p := 4) Tryz.results101 rfl (Lies.all7 L9 _ _ _ _ _ _ _)) rfl (gpost_leaf HE.out hb (HLf.out _ _))
    by_cases hk3 : kAt l i = 3
    · have hlt : i < l.length := kAt_lt (by omega)
      have hlt' : i < n := by rw [T.len]; exact hlt
      have HE : Hid (gAtom (f + 1) l i = .ok (.node 9 ⟨#[]⟩ (nuAt l i) (plAt l i) [], i + 1)) := by
        refine Lib.hid ?_
        rw [gAtom, if_neg (by simpa using hp), if_neg hk1, if_neg hk2, if_pos hk3]
      obtain ⟨g, o, rfl, c0, c1, c2, c3⟩ := hR1.get hlt
      rw [hk3] at HK
      clear hk3 c0
      have HY := Lib.hid (fun V => gyes_at 9 (nuAt l i) (plAt l i) ⟨#[]⟩ none 0 0 (i + 1) ((i : Int) + 1) V (by simp))
      have HLf := Lib.hid (fun V X => T.leaf i 6 0 (plAt l i) V X)
      have HL0 := Lib.hid (fun V X => leaf0 9 (nuAt l i) (plAt l i) V X)
      obtain ⟨NM, hNM⟩ : ∃ NM, NM = nmAt l i := ⟨_, rfl⟩
      obtain ⟨NU, hNU⟩ : ∃ NU, NU = nuAt l i := ⟨_, rfl⟩
      obtain ⟨PL, hPL⟩ : ∃ PL, PL = plAt l i := ⟨_, rfl⟩
      rw [← hNM] at c1
      rw [← hNU] at c2 HE HY HL0
      rw [← hPL] at c3 HE HY HLf HL0
      clear hNM hNU hPL hR1 hR T
      go_enter Tryz.func101, Tryz.ntmps101
      go_wp2_with fail
      refine HX.out.mono ?_
      rintro e w' ⟨rfl, rfl⟩
      go_wp2_with fail
      refine HK.out.mono ?_
      rintro e w' ⟨rfl, rfl⟩
      go_wp2_with fail
      generalize hW : (w.alloc (.cells zero7 68)) = wr at hb0 hL c1 c2 c3 ⊢
      clear hW HX HK
      go_still_tail 13, (by kernel_rfl)
      change wpList _ _ _ _ _ wr.drew
      go_wp2_with fail
      refine (HY.out _).mono ?_
      rintro e V ⟨rfl, hb2⟩
      have hb := (hb0.drew).trans (hb2.mono (by exact hb0.size))
      have L9 := (hL.drew).below hb2 hL.lt
      have q9 := L9.seven
      go_wp2_with fail
      exact bodyPost_ret (res_got (p := 4) Tryz.results101 rfl (Lies.all7 L9 _ _ _ _ _ _ _)) rfl (gpost_leaf HE.out hb (HL0.out _ _))
    have HE : Hid (gAtom (f + 1) l i = .error i) := by
      refine Lib.hid ?_
      rw [gAtom, if_neg (by simpa using hp), if_neg hk1, if_neg hk2, if_neg hk3]
    obtain ⟨k, hk⟩ : ∃ k, k = kAt l i := ⟨_, rfl⟩
    rw [← hk] at HK hk1 hk2 hk3
    have HN := Lib.hid (gno_lit i (w.alloc (.cells zero7 68)))
    clear hk hp
    go_enter Tryz.func101, Tryz.ntmps101
    go_wp2_with fail
    refine HX.out.mono ?_
    rintro e w' ⟨rfl, rfl⟩
    go_wp2_with fail
    refine HK.out.mono ?_
    rintro e w' ⟨rfl, rfl⟩
    go_wp2_with fail
    refine HN.out.mono ?_
    rintro e V2 ⟨rfl, hb2⟩
    have L9 := hL.below hb2 hL.lt
    have q9 := L9.seven
    have hb9 := hb0.trans (hb2.mono hb0.size)
    go_wp2_with fail
    exact bodyPost_ret (res_got (p := 4) Tryz.results101 rfl (Lies.all7 L9 _ _ _ _ _ _ _)) rfl (gpost_err HE.out hb9)
end Lx
end Go.Proofs.YtobdoahdjbmflaaGreatDoor
namespace Go.Proofs.YtobdoahdjbmflaaGreatDoor
open Go.RowKit
namespace Lx
set_option maxRecDepth 100000
theorem gpost_parts {w V : World} {r : GR} {k num a : Int} {s : ByteArray} {l : List Tr} {A : Option Addr} {j n : Nat} (hn : l.length = n) (hr : r = .ok (.node k s num a l, j)) (hb : Below w.heap.size w V) (hT : TIn V (fun g => w.heap.size + 1 ≤ g) (.node k s num a l) A) :
    GPost w r (.returned (.agg #[.int .i64 k, .string s, .int .i64 num, .int .i64 a, .slice A n n, .int .i64 j, .bool true]))
      (put7 V w.heap.size (.int .i64 k) (.string s) (.int .i64 num) (.int .i64 a) (.slice A n n) (.int .i64 j) (.bool true)) := by
  have h := gpost_ok (c := n) hr hb hT
  unfold gv at h
  simp only [Tr.kind, Tr.name, Tr.n, Tr.place, Tr.parts, hn, capF, Nat.max_self] at h
  exact h
set_option maxHeartbeats 4000000 in
theorem glam_any {l : List Tok} {A : Option Addr} {n c f : Nat} (T : GTok l n) (HX0 : GC 37 l A n c 7 gExpr f) :
    GC 59 l A n c 6 gLam (f + 1) := by
  intro i x w hx hi hf hR
  subst hx
  have h6 := T.few
  have hb0 := below_seven (w := w)
  have hR1 := hR.at_new hb0
  have hL := Lies.new w 68 zero7
  have HK := Lib.hid (gkind_at l A n c (i + 1) ((i : Int) + 1) (w.alloc (.cells zero7 68)) (by simp) T.len (by omega) h6 hR1)
  have HX := Lib.hid (gtext_at l A n c (i + 2) ((i : Int) + 2) (w.alloc (.cells zero7 68)) (by simp) T.len (by omega) h6 hR1)
  by_cases hk : kAt l (i + 1) = 1
  · by_cases hx : xAt l (i + 2) = [46]
    · have hlt : i + 2 < n := by rw [T.len]; exact xAt_lt hx (by simp)
      have HC := Lib.hid (HX0 (i + 3) ((i : Int) + 3) (w.alloc (.cells zero7 68)) (by simp) (by omega) (by omega) hR1)
      have HE : Hid (gLam (f + 1) l i = (match gExpr f l (i + 3) with | .error j => .error j | .ok (b, j) => .ok (.node 2 (nmAt l (i + 1)) 0 (plAt l i) [b], j))) := by
        refine Lib.hid ?_
        rw [gLam, if_neg (fun h => h hk), if_neg (fun h => h hx)]
        all_goals (cases gExpr f l (i + 3) <;> rfl)
      rw [hk] at HK
      rw [hx] at HX
      clear hk hx
      go_enter Tryz.func59, Tryz.ntmps59
      go_wp2_with fail
      refine HK.out.mono ?_
      rintro e w' ⟨rfl, rfl⟩
      go_wp2_with fail
      refine HX.out.mono ?_
      rintro e w' ⟨rfl, rfl⟩
      go_wp2_with fail
      refine HC.out.mono ?_
      intro e V hG
      have hb := hb0.trans (hG.1.mono hb0.size)
      have L := hL.below hG.1 (by simp)
      have hsz := hG.1.size
      have hRV := hR.below hb (Nat.le_refl _)
      rcases hG.split with ⟨j, hr, rfl⟩ | ⟨t, j, A2, c2, hr, rfl, hT⟩
      · rw [hr] at HE
        have L9 := L.old (.cells #[.int .i64 0, .string ⟨#[]⟩, .int .i64 0, .int .i64 0, .slice none 0 0, .int .i64 j, .bool false] 68)
        have q9 := L9.seven
        have hb9 := hb.alloc hb.size (.cells #[.int .i64 0, .string ⟨#[]⟩, .int .i64 0, .int .i64 0, .slice none 0 0, .int .i64 j, .bool false] 68)
        go_wp2_with fail
        exact bodyPost_ret (res_got (p := 4) Tryz.results59 rfl (Lies.all7 L9 _ _ _ _ _ _ _)) rfl (gpost_err HE.out hb9)
      · rw [hr] at HE
        have hg9 := hR.get (i := i) (by rw [← T.len]; omega)
        have hb1 := hb.alloc hb.size (.cells #[.int .i64 t.kind, .string t.name, .int .i64 t.n, .int .i64 t.place, .slice A2 t.parts.length (capF t.parts.length c2), .int .i64 j, .bool true] 68)
        have hR8 := hR.below hb1 (Nat.le_refl _)
        have L8 := L.old (.cells #[.int .i64 t.kind, .string t.name, .int .i64 t.n, .int .i64 t.place, .slice A2 t.parts.length (capF t.parts.length c2), .int .i64 j, .bool true] 68)
        have LT := Lies.new V 68 #[.int .i64 t.kind, .string t.name, .int .i64 t.n, .int .i64 t.place, .slice A2 t.parts.length (capF t.parts.length c2), .int .i64 j, .bool true]
        have hT8 := TIn.below t (TIn.wide t (Y := fun g => w.heap.size + 1 ≤ g) hT (fun g hg _ => by simpa using hg)) ((Below.refl _ V).alloc (Nat.le_refl _) (.cells #[.int .i64 t.kind, .string t.name, .int .i64 t.n, .int .i64 t.place, .slice A2 t.parts.length (capF t.parts.length c2), .int .i64 j, .bool true] 68)) (Nat.le_refl _)
        obtain ⟨g, o, rfl, -, c1, -, -⟩ := hR8.get (i := i + 1) (by rw [← T.len]; omega)
        obtain ⟨g2, o2, hA2, -, -, -, c3⟩ := hR8.get (i := i) (by rw [← T.len]; omega)
        cases hA2
        obtain ⟨g3, o3, hA3, -, -, -, c4⟩ := hg9
        cases hA3
        have hgl := cell_lt c4
        clear c4 hRV hR8
        obtain ⟨NM, hNM⟩ : ∃ NM, NM = nmAt l (i + 1) := ⟨_, rfl⟩
        obtain ⟨PL, hPL⟩ : ∃ PL, PL = plAt l i := ⟨_, rfl⟩
        have hNMs : NM.size ≤ 140737488351232 := by rw [hNM]; exact T.small _
        rw [← hNM] at c1 HE
        rw [← hPL] at c3 HE
        have hlt' : i < n := by omega
        have hlt2 : i + 1 < n := by omega
        have hb5 : w.heap.size ≠ V.heap.size := by simp at hsz; omega
        clear hNM hPL hR hR1 HK HX HC hL L hG hr
        obtain ⟨b5, hb5'⟩ : ∃ b5, b5 = V.heap.size := ⟨_, rfl⟩
        rw [← hb5'] at hb5 LT
        obtain ⟨tk, ts, tn, ta, tl⟩ := t
        simp only [Tr.kind, Tr.name, Tr.n, Tr.place, Tr.parts] at LT L8 hb1 hT8 c1 c3
        go_upto_region 8 with fail
        simp only [Tr.kind, Tr.name, Tr.n, Tr.place, Tr.parts]
        rw [← hb5']
        have hb5s : b5 < (V.alloc (.cells #[.int .i64 tk, .string ts, .int .i64 tn, .int .i64 ta, .slice A2 tl.length (capF tl.length c2), .int .i64 j, .bool true] 68)).heap.size := LT.lt
        generalize V.alloc (.cells #[.int .i64 tk, .string ts, .int .i64 tn, .int .i64 ta, .slice A2 tl.length (capF tl.length c2), .int .i64 j, .bool true] 68) = V8 at LT L8 hb1 hT8 c1 c3 hb5s ⊢
        have HS : Hid (∀ V', Below V8.heap.size V8 V' → (fun V' : World => (V'.cell? ⟨g, o + (i + 1) * 4 + 1, none⟩ = some (.string NM) ∧ V'.cell? ⟨g, o + i * 4 + 3, none⟩ = some (.int .i64 PL) ∧ V'.cell? ⟨b5, 0, none⟩ = some (.int .i64 tk) ∧ V'.cell? ⟨b5, 1, none⟩ = some (.string ts) ∧ V'.cell? ⟨b5, 2, none⟩ = some (.int .i64 tn) ∧ V'.cell? ⟨b5, 3, none⟩ = some (.int .i64 ta) ∧ V'.cell? ⟨b5, 4, none⟩ = some (.slice A2 tl.length (capF tl.length c2)) ∧ V'.cell? ⟨b5, 5, none⟩ = some (.int .i64 j))) V') := Lib.hid fun V' h =>
          ⟨(h.cell (p := ⟨g, _, none⟩) (cell_lt c1)).trans c1, (h.cell (p := ⟨g, _, none⟩) (cell_lt c3)).trans c3, (h.cell (p := ⟨b5, 0, none⟩) hb5s).trans (LT.cell 0), (h.cell (p := ⟨b5, 1, none⟩) hb5s).trans (LT.cell 1), (h.cell (p := ⟨b5, 2, none⟩) hb5s).trans (LT.cell 2), (h.cell (p := ⟨b5, 3, none⟩) hb5s).trans (LT.cell 3), (h.cell (p := ⟨b5, 4, none⟩) hb5s).trans (LT.cell 4), (h.cell (p := ⟨b5, 5, none⟩) hb5s).trans (LT.cell 5)⟩
        have HY : Hid (∀ W, Below V8.heap.size V8 W → Lies W V8.heap.size 24 #[.int .i64 tk, .string ts, .int .i64 tn, .int .i64 ta, .slice A2 tl.length (capF tl.length c2)] → Calls Tryz.prog 89 #[.agg #[.int .i64 2, .string NM, .int .i64 0, .int .i64 PL, .slice (some ⟨V8.heap.size, 0, none⟩) 1 1], .int .i64 j] W fun e w' => e = .returned (.agg #[.int .i64 2, .string NM, .int .i64 0, .int .i64 PL, .slice (some ⟨V8.heap.size, 0, none⟩) 1 1, .int .i64 j, .bool true]) ∧ (Below V8.heap.size V8 w' ∧ Lies w' V8.heap.size 24 #[.int .i64 tk, .string ts, .int .i64 tn, .int .i64 ta, .slice A2 tl.length (capF tl.length c2)])) := Lib.hid fun W h z =>
          (gyes_any 2 0 PL NM (some ⟨V8.heap.size, 0, none⟩) 1 1 j _).mono (fun e w' q => ⟨q.1, h.trans (q.2.mono h.size), z.below q.2 z.lt⟩)
        have HTH : Hid (∀ V', Below V8.heap.size V8 V' → V'.there w.heap.size 0 7) := Lib.hid fun V' h k hk => by
          have z := L8.below h L8.lt
          exact ⟨by rw [Nat.zero_add, z.cell k, Array.getElem?_eq_getElem (show k < (zero7 : Array Value).size from hk)]; rfl, by rw [Nat.zero_add]; exact z.frozen k⟩
        have HSP : Hid (∀ (V' : World) (vs : List Value), (fun V' : World => (V'.cell? ⟨g, o + (i + 1) * 4 + 1, none⟩ = some (.string NM) ∧ V'.cell? ⟨g, o + i * 4 + 3, none⟩ = some (.int .i64 PL) ∧ V'.cell? ⟨b5, 0, none⟩ = some (.int .i64 tk) ∧ V'.cell? ⟨b5, 1, none⟩ = some (.string ts) ∧ V'.cell? ⟨b5, 2, none⟩ = some (.int .i64 tn) ∧ V'.cell? ⟨b5, 3, none⟩ = some (.int .i64 ta) ∧ V'.cell? ⟨b5, 4, none⟩ = some (.slice A2 tl.length (capF tl.length c2)) ∧ V'.cell? ⟨b5, 5, none⟩ = some (.int .i64 j))) V' → (fun V' : World => (V'.cell? ⟨g, o + (i + 1) * 4 + 1, none⟩ = some (.string NM) ∧ V'.cell? ⟨g, o + i * 4 + 3, none⟩ = some (.int .i64 PL) ∧ V'.cell? ⟨b5, 0, none⟩ = some (.int .i64 tk) ∧ V'.cell? ⟨b5, 1, none⟩ = some (.string ts) ∧ V'.cell? ⟨b5, 2, none⟩ = some (.int .i64 tn) ∧ V'.cell? ⟨b5, 3, none⟩ = some (.int .i64 ta) ∧ V'.cell? ⟨b5, 4, none⟩ = some (.slice A2 tl.length (capF tl.length c2)) ∧ V'.cell? ⟨b5, 5, none⟩ = some (.int .i64 j))) (V'.setCells w.heap.size 0 vs)) := Lib.hid fun V' vs h =>
          have e : ∀ b' o', b' ≠ w.heap.size → (V'.setCells w.heap.size 0 vs).cell? ⟨b', o', none⟩ = V'.cell? ⟨b', o', none⟩ := fun b' o' hne => World.cell?_setCells_out w.heap.size vs 0 V' ⟨b', o', none⟩ (fun hb _ => absurd hb hne)
          have n1 : g ≠ w.heap.size := by omega
          ⟨(e _ _ n1).trans h.1, (e _ _ n1).trans h.2.1, (e _ _ hb5.symm).trans h.2.2.1, (e _ _ hb5.symm).trans h.2.2.2.1, (e _ _ hb5.symm).trans h.2.2.2.2.1, (e _ _ hb5.symm).trans h.2.2.2.2.2.1, (e _ _ hb5.symm).trans h.2.2.2.2.2.2.1, (e _ _ hb5.symm).trans h.2.2.2.2.2.2.2⟩
        have hS0 := HS.out _ (Below.refl _ V8)
        have hd0 : Below V8.heap.size V8 V8 := Below.refl _ V8
        have HL8 := Lib.hid L8
        have HT8 := Lib.hid hT8
        have HE2 := Lib.hid HE.out
        have HB1 := Lib.hid hb1
        clear c1 c3 LT L8 hT8 hb1 hgl hb5' HE HX0 hb0
        have hwr : IntKind.i64.wrap ((i : Int) + 1) = (i : Int) + 1 := IntWalk.i64_in _ (by omega)
        refine wp_region_held_drew (S := (fun V' : World => (V'.cell? ⟨g, o + (i + 1) * 4 + 1, none⟩ = some (.string NM) ∧ V'.cell? ⟨g, o + i * 4 + 3, none⟩ = some (.int .i64 PL) ∧ V'.cell? ⟨b5, 0, none⟩ = some (.int .i64 tk) ∧ V'.cell? ⟨b5, 1, none⟩ = some (.string ts) ∧ V'.cell? ⟨b5, 2, none⟩ = some (.int .i64 tn) ∧ V'.cell? ⟨b5, 3, none⟩ = some (.int .i64 ta) ∧ V'.cell? ⟨b5, 4, none⟩ = some (.slice A2 tl.length (capF tl.length c2)) ∧ V'.cell? ⟨b5, 5, none⟩ = some (.int .i64 j)))) rfl hS0 (fun hSs => ?_)
        change wpAnyH _ _ _ _ _ 19 (Array.replicate 19 false) _ _
        refine wpAnyH_take (i := 0) (oi := ⟨some 30, _, _, _, _, _⟩) (v := .slice (some ⟨g, o, none⟩) n c) rfl (by kernel_rfl) (by kernel_rfl) (by kernel_rfl) (fun _ _ _ h => h) (.inl ⟨by kernel_rfl, fun W hW => by kernel_rfl⟩) hSs ?_
        try simp only [Act.put, List.setIfInBounds_toArray, List.set_cons_zero, List.set_cons_succ]
        refine wpAnyH_take (i := 1) (oi := ⟨some 31, _, _, _, _, _⟩) (v := .int .i64 i) rfl (by kernel_rfl) (by kernel_rfl) (by kernel_rfl) (fun _ _ _ h => h) (.inl ⟨by kernel_rfl, fun W hW => by kernel_rfl⟩) hSs ?_
        try simp only [Act.put, List.setIfInBounds_toArray, List.set_cons_zero, List.set_cons_succ]
        refine wpAnyH_take (i := 2) (oi := ⟨some 32, _, _, _, _, _⟩) (v := .int .i64 (i + 1)) rfl (by kernel_rfl) (by kernel_rfl) (by kernel_rfl) (fun _ _ _ h => h) (.inl ⟨by kernel_rfl, fun W hW => by first | (obtain ⟨a0, a1, a2, a3, a4, a5, a6, a7⟩ := hW; go_simp; done) | (obtain ⟨a0, a1, a2, a3, a4, a5, a6, a7⟩ := hW; go_simp; omega) | (obtain ⟨a0, a1, a2, a3, a4, a5, a6, a7⟩ := hW; go_simp; simp [*]; done)⟩) hSs ?_
        try simp only [Act.put, List.setIfInBounds_toArray, List.set_cons_zero, List.set_cons_succ]
        refine wpAnyH_take (i := 3) (oi := ⟨some 33, _, _, _, _, _⟩) (v := .pointer (some ⟨g, o + (i + 1) * 4, none⟩)) rfl (by kernel_rfl) (by kernel_rfl) (by kernel_rfl) (fun _ _ _ h => h) (.inl ⟨by kernel_rfl, fun W hW => by first | (obtain ⟨a0, a1, a2, a3, a4, a5, a6, a7⟩ := hW; go_simp; done) | (obtain ⟨a0, a1, a2, a3, a4, a5, a6, a7⟩ := hW; go_simp; omega) | (obtain ⟨a0, a1, a2, a3, a4, a5, a6, a7⟩ := hW; go_simp; simp [*]; done)⟩) hSs ?_
        try simp only [Act.put, List.setIfInBounds_toArray, List.set_cons_zero, List.set_cons_succ]
        refine wpAnyH_take (i := 4) (oi := ⟨some 34, _, _, _, _, _⟩) (v := .pointer (some ⟨g, o + (i + 1) * 4 + 1, none⟩)) rfl (by kernel_rfl) (by kernel_rfl) (by kernel_rfl) (fun _ _ _ h => h) (.inl ⟨by kernel_rfl, fun W hW => by first | (obtain ⟨a0, a1, a2, a3, a4, a5, a6, a7⟩ := hW; go_simp; done) | (obtain ⟨a0, a1, a2, a3, a4, a5, a6, a7⟩ := hW; go_simp; omega) | (obtain ⟨a0, a1, a2, a3, a4, a5, a6, a7⟩ := hW; go_simp; simp [*]; done)⟩) hSs ?_
        try simp only [Act.put, List.setIfInBounds_toArray, List.set_cons_zero, List.set_cons_succ]
        refine wpAnyH_take (i := 5) (oi := ⟨some 35, _, _, _, _, _⟩) (v := .string NM) rfl (by kernel_rfl) (by kernel_rfl) (by kernel_rfl) (fun _ _ _ h => h) (.inl ⟨by kernel_rfl, fun W hW => by first | (obtain ⟨a0, a1, a2, a3, a4, a5, a6, a7⟩ := hW; go_simp; done) | (obtain ⟨a0, a1, a2, a3, a4, a5, a6, a7⟩ := hW; go_simp; omega) | (obtain ⟨a0, a1, a2, a3, a4, a5, a6, a7⟩ := hW; go_simp; simp [*]; done)⟩) hSs ?_
        try simp only [Act.put, List.setIfInBounds_toArray, List.set_cons_zero, List.set_cons_succ]
        refine wpAnyH_take (i := 6) (oi := ⟨some 36, _, _, _, _, _⟩) (v := .slice (some ⟨g, o, none⟩) n c) rfl (by kernel_rfl) (by kernel_rfl) (by kernel_rfl) (fun _ _ _ h => h) (.inl ⟨by kernel_rfl, fun W hW => by kernel_rfl⟩) hSs ?_
        try simp only [Act.put, List.setIfInBounds_toArray, List.set_cons_zero, List.set_cons_succ]
        refine wpAnyH_take (i := 7) (oi := ⟨some 37, _, _, _, _, _⟩) (v := .int .i64 i) rfl (by kernel_rfl) (by kernel_rfl) (by kernel_rfl) (fun _ _ _ h => h) (.inl ⟨by kernel_rfl, fun W hW => by kernel_rfl⟩) hSs ?_
        try simp only [Act.put, List.setIfInBounds_toArray, List.set_cons_zero, List.set_cons_succ]
        refine wpAnyH_take (i := 8) (oi := ⟨some 38, _, _, _, _, _⟩) (v := .pointer (some ⟨g, o + i * 4, none⟩)) rfl (by kernel_rfl) (by kernel_rfl) (by kernel_rfl) (fun _ _ _ h => h) (.inl ⟨by kernel_rfl, fun W hW => by first | (obtain ⟨a0, a1, a2, a3, a4, a5, a6, a7⟩ := hW; go_simp; done) | (obtain ⟨a0, a1, a2, a3, a4, a5, a6, a7⟩ := hW; go_simp; omega) | (obtain ⟨a0, a1, a2, a3, a4, a5, a6, a7⟩ := hW; go_simp; simp [*]; done)⟩) hSs ?_
        try simp only [Act.put, List.setIfInBounds_toArray, List.set_cons_zero, List.set_cons_succ]
        refine wpAnyH_take (i := 9) (oi := ⟨some 39, _, _, _, _, _⟩) (v := .pointer (some ⟨g, o + i * 4 + 3, none⟩)) rfl (by kernel_rfl) (by kernel_rfl) (by kernel_rfl) (fun _ _ _ h => h) (.inl ⟨by kernel_rfl, fun W hW => by first | (obtain ⟨a0, a1, a2, a3, a4, a5, a6, a7⟩ := hW; go_simp; done) | (obtain ⟨a0, a1, a2, a3, a4, a5, a6, a7⟩ := hW; go_simp; omega) | (obtain ⟨a0, a1, a2, a3, a4, a5, a6, a7⟩ := hW; go_simp; simp [*]; done)⟩) hSs ?_
        try simp only [Act.put, List.setIfInBounds_toArray, List.set_cons_zero, List.set_cons_succ]
        refine wpAnyH_take (i := 10) (oi := ⟨some 40, _, _, _, _, _⟩) (v := .int .i64 PL) rfl (by kernel_rfl) (by kernel_rfl) (by kernel_rfl) (fun _ _ _ h => h) (.inl ⟨by kernel_rfl, fun W hW => by first | (obtain ⟨a0, a1, a2, a3, a4, a5, a6, a7⟩ := hW; go_simp; done) | (obtain ⟨a0, a1, a2, a3, a4, a5, a6, a7⟩ := hW; go_simp; omega) | (obtain ⟨a0, a1, a2, a3, a4, a5, a6, a7⟩ := hW; go_simp; simp [*]; done)⟩) hSs ?_
        try simp only [Act.put, List.setIfInBounds_toArray, List.set_cons_zero, List.set_cons_succ]
        refine wpAnyH_take (i := 11) (oi := ⟨some 41, _, _, _, _, _⟩) (v := .pointer (some ⟨b5, 0, none⟩)) rfl (by kernel_rfl) (by kernel_rfl) (by kernel_rfl) (fun _ _ _ h => h) (.inl ⟨by kernel_rfl, fun W hW => by first | (obtain ⟨a0, a1, a2, a3, a4, a5, a6, a7⟩ := hW; go_simp; done) | (obtain ⟨a0, a1, a2, a3, a4, a5, a6, a7⟩ := hW; go_simp; omega) | (obtain ⟨a0, a1, a2, a3, a4, a5, a6, a7⟩ := hW; go_simp; simp [*]; done)⟩) hSs ?_
        try simp only [Act.put, List.setIfInBounds_toArray, List.set_cons_zero, List.set_cons_succ]
        refine wpAnyH_take (i := 12) (oi := ⟨some 42, _, _, _, _, _⟩) (v := .agg #[.int .i64 tk, .string ts, .int .i64 tn, .int .i64 ta, .slice A2 tl.length (capF tl.length c2)]) rfl (by kernel_rfl) (by kernel_rfl) (by kernel_rfl) (fun _ _ _ h => h) (.inl ⟨by kernel_rfl, fun W hW => by first | (obtain ⟨a0, a1, a2, a3, a4, a5, a6, a7⟩ := hW; go_simp; done) | (obtain ⟨a0, a1, a2, a3, a4, a5, a6, a7⟩ := hW; go_simp; omega) | (obtain ⟨a0, a1, a2, a3, a4, a5, a6, a7⟩ := hW; go_simp; simp [*]; done)⟩) hSs ?_
        try simp only [Act.put, List.setIfInBounds_toArray, List.set_cons_zero, List.set_cons_succ]
        refine wpAnyH_take (i := 15) (oi := ⟨some 45, _, _, _, _, _⟩) (v := .pointer (some ⟨b5, 5, none⟩)) rfl (by kernel_rfl) (by kernel_rfl) (by kernel_rfl) (fun _ _ _ h => h) (.inl ⟨by kernel_rfl, fun W hW => by first | (obtain ⟨a0, a1, a2, a3, a4, a5, a6, a7⟩ := hW; go_simp; done) | (obtain ⟨a0, a1, a2, a3, a4, a5, a6, a7⟩ := hW; go_simp; omega) | (obtain ⟨a0, a1, a2, a3, a4, a5, a6, a7⟩ := hW; go_simp; simp [*]; done)⟩) hSs ?_
        try simp only [Act.put, List.setIfInBounds_toArray, List.set_cons_zero, List.set_cons_succ]
        refine wpAnyH_take (i := 16) (oi := ⟨some 46, _, _, _, _, _⟩) (v := .int .i64 j) rfl (by kernel_rfl) (by kernel_rfl) (by kernel_rfl) (fun _ _ _ h => h) (.inl ⟨by kernel_rfl, fun W hW => by first | (obtain ⟨a0, a1, a2, a3, a4, a5, a6, a7⟩ := hW; go_simp; done) | (obtain ⟨a0, a1, a2, a3, a4, a5, a6, a7⟩ := hW; go_simp; omega) | (obtain ⟨a0, a1, a2, a3, a4, a5, a6, a7⟩ := hW; go_simp; simp [*]; done)⟩) hSs ?_
        try simp only [Act.put, List.setIfInBounds_toArray, List.set_cons_zero, List.set_cons_succ]
        refine wpAnyH_ready (rs := [13]) (by kernel_rfl) (by simp) (AllReadyH.cons rfl (fun K hK => ?_) AllReadyH.nil)
        go_simp
        have hd1 := (Below.alloc hd0 hd0.size (.cells #[.int .i64 tk, .string ts, .int .i64 tn, .int .i64 ta, .slice A2 tl.length (capF tl.length c2)] 24)).drew
        refine hK.out _ _ (HS.out _ hd1) (fun hS1 => ?_)
        clear hK K
        try simp only [Act.put, List.setIfInBounds_toArray, List.set_cons_zero, List.set_cons_succ]
        refine wpAnyH_take (i := 14) (oi := ⟨some 44, _, _, _, _, _⟩) (v := .agg #[.int .i64 2, .string NM, .int .i64 0, .int .i64 PL, .slice (some ⟨V8.heap.size, 0, none⟩) 1 1]) rfl (by kernel_rfl) (by kernel_rfl) (by kernel_rfl) (fun _ _ _ h => h) (.inl ⟨by kernel_rfl, fun W hW => by first | (obtain ⟨a0, a1, a2, a3, a4, a5, a6, a7⟩ := hW; go_simp; done) | (obtain ⟨a0, a1, a2, a3, a4, a5, a6, a7⟩ := hW; go_simp; omega) | (obtain ⟨a0, a1, a2, a3, a4, a5, a6, a7⟩ := hW; go_simp; simp [*]; done)⟩) hS1 ?_
        try simp only [Act.put, List.setIfInBounds_toArray, List.set_cons_zero, List.set_cons_succ]
        refine wpAnyH_ready (rs := [17]) (by kernel_rfl) (by simp) (AllReadyH.cons rfl (fun K hK => ?_) AllReadyH.nil)
        go_simp
        refine (HY.out _ hd1 ((Lies.new V8 _ _).drew)).mono ?_
        rintro e u2 ⟨rfl, hd2⟩
        refine hK.out _ _ (HS.out _ hd2.1) (fun hS2 => ?_)
        clear hK K
        try simp only [Act.put, List.setIfInBounds_toArray, List.set_cons_zero, List.set_cons_succ]
        refine wpAnyH_ready (rs := [18]) (by kernel_rfl) (by simp) (AllReadyH.cons rfl (fun K hK => ?_) AllReadyH.nil)
        refine wp_store_mid _ _ _ rfl w.heap.size 0 #[.int .i64 2, .string NM, .int .i64 0, .int .i64 PL, .slice (some ⟨V8.heap.size, 0, none⟩) 1 1, .int .i64 j, .bool true] rfl rfl (HTH.out _ hd2.1) (by kernel_rfl) (by simp [Value.oneCell']) ?_
        refine hK.out _ _ (HSP.out _ _ hS2) (fun hS3 => ?_)
        clear hK K
        try simp only [Act.put, List.setIfInBounds_toArray]
        refine wpAnyH_done (by kernel_rfl) ?_ _
        go_wp2_with fail
        have L9 := HL8.out.below hd2.1 HL8.out.lt
        have hT9 : TIn u2 (fun g => w.heap.size + 1 ≤ g) (.node 2 NM 0 PL [.node tk ts tn ta tl]) (some ⟨V8.heap.size, 0, none⟩) := by
          rw [TIn]
          refine ⟨hNMs, by simp, ?_⟩
          rw [LIn]
          refine ⟨⟨V8.heap.size, 0, A2, c2, ⟨rfl, by have := HL8.out.lt; omega⟩, hd2.2.cell 0, hd2.2.cell 1, hd2.2.cell 2, hd2.2.cell 3, hd2.2.cell 4, TIn.below _ HT8.out hd2.1 (Nat.le_refl _)⟩, by rw [LIn]; trivial⟩
        exact bodyPost_ret (res_got (p := 4) Tryz.results59 rfl (Lies.all7 L9 _ _ _ _ _ _ _)) rfl (gpost_parts (n := 1) rfl HE2.out (HB1.out.trans (hd2.1.mono HB1.out.size)) hT9)
    · have HE : Hid (gLam (f + 1) l i = .error (i + 2)) := by
        refine Lib.hid ?_
        rw [gLam, if_neg (fun h => h hk), if_pos hx]
      have HN := Lib.hid (gno_lit (i + 2) (w.alloc (.cells zero7 68)))
      rw [show (((i + 2 : Nat) : Int)) = (i : Int) + 2 from by simp] at HN
      obtain ⟨X, hX⟩ : ∃ X, X = xAt l (i + 2) := ⟨_, rfl⟩
      rw [← hX] at HX hx
      have b0 : (X == [46]) = false := beq_eq_false_iff_ne.2 hx
      rw [hk] at HK
      clear hX hk
      go_enter Tryz.func59, Tryz.ntmps59
      go_wp2_with fail
      refine HK.out.mono ?_
      rintro e w' ⟨rfl, rfl⟩
      go_wp2_with fail
      refine HX.out.mono ?_
      rintro e w' ⟨rfl, rfl⟩
      go_wp2_with fail
      refine HN.out.mono ?_
      rintro e V2 ⟨rfl, hb2⟩
      have L9 := hL.below hb2 hL.lt
      have q9 := L9.seven
      have hb9 := hb0.trans (hb2.mono hb0.size)
      go_wp2_with fail
      exact bodyPost_ret (res_got (p := 4) Tryz.results59 rfl (Lies.all7 L9 _ _ _ _ _ _ _)) rfl (gpost_err (j := i + 2) HE.out hb9)
  · have HE : Hid (gLam (f + 1) l i = .error (i + 1)) := by
      refine Lib.hid ?_
      rw [gLam, if_pos hk]
    have HN := Lib.hid (gno_lit (i + 1) (w.alloc (.cells zero7 68)))
    rw [show (((i + 1 : Nat) : Int)) = (i : Int) + 1 from by simp] at HN
    obtain ⟨k, hk'⟩ : ∃ k, k = kAt l (i + 1) := ⟨_, rfl⟩
    rw [← hk'] at HK hk
    clear hk'
    go_enter Tryz.func59, Tryz.ntmps59
    go_wp2_with fail
    refine HK.out.mono ?_
    rintro e w' ⟨rfl, rfl⟩
    go_wp2_with fail
    refine HN.out.mono ?_
    rintro e V2 ⟨rfl, hb2⟩
    have L9 := hL.below hb2 hL.lt
    have q9 := L9.seven
    have hb9 := hb0.trans (hb2.mono hb0.size)
    go_wp2_with fail
    exact bodyPost_ret (res_got (p := 4) Tryz.results59 rfl (Lies.all7 L9 _ _ _ _ _ _ _)) rfl (gpost_err (j := i + 1) HE.out hb9)
end Lx
end Go.Proofs.YtobdoahdjbmflaaGreatDoor
namespace Go.Proofs.YtobdoahdjbmflaaGreatDoor
open Go Go.RowKit
namespace Lx
set_option maxRecDepth 100000
section
variable {P : Program} {ops : Array Oper} {Q : Exit → Act → World → Prop} {md : Region.Mode} {S : World → Prop} {last : Nat}
/-- Two operations may come up. -/
theorem wpAnyK_two {i j : Nat} {oi oj : Oper} {fuel : Nat} {listed : Array Bool} {a : Act} {w : World} (hoi : ops[i]? = some oi) (hoj : ops[j]? = some oj) (hgi : oi.guard = none) (hgj : oj.guard = none) (hr : Region.ready md ops listed = [i, j])
    (h1 : ∀ K' : Act → World → Prop, Shut (∀ a w, (i ≠ last → S w) → ((i ≠ last → S w) → wpAnyK P md ops Q S last fuel (listed.setIfInBounds i true) a w) → K' a w) → Oper.wp P oi a w K' Q)
    (h2 : ∀ K' : Act → World → Prop, Shut (∀ a w, (j ≠ last → S w) → ((j ≠ last → S w) → wpAnyK P md ops Q S last fuel (listed.setIfInBounds j true) a w) → K' a w) → Oper.wp P oj a w K' Q) :
    wpAnyK P md ops Q S last (fuel + 1) listed a w := by
  refine ⟨fun h0 => (by rw [hr] at h0; cases h0), fun k hk => ?_⟩
  rw [hr] at hk
  rcases List.mem_cons.1 hk with rfl | hk
  · refine wpOp_step hoi fun K' hK => ?_
    rw [if_pos (by simp [Region.wanted, hgi])]
    exact h1 K' (fun a w hS hW => hK a w ⟨hS, hW hS⟩)
  · obtain rfl : k = j := by simpa using hk
    refine wpOp_step hoj fun K' hK => ?_
    rw [if_pos (by simp [Region.wanted, hgj])]
    exact h2 K' (fun a w hS hW => hK a w ⟨hS, hW hS⟩)
end
theorem lies_there {w : World} {g n : Nat} {t : TypeId} {cs : Array Value} (h : Lies w g t cs) (hn : cs.size = n) : w.there g 0 n := fun k hk => by
  subst hn
  exact ⟨by rw [Nat.zero_add, h.cell k, Array.getElem?_eq_getElem hk]; rfl, by rw [Nat.zero_add]; exact h.frozen k⟩
theorem lies_set5 {w : World} {g : Nat} {t : TypeId} {a b c d e : Value} (h : Lies w g t #[a, b, c, d, e]) (x y z u v : Value) : Lies (w.setCells g 0 [x, y, z, u, v]) g t #[x, y, z, u, v] := h.all5 x y z u v
theorem lies_set7 {w : World} {g : Nat} {t : TypeId} {a b c d e f k : Value} (h : Lies w g t #[a, b, c, d, e, f, k]) (x y z u v p q : Value) : Lies (w.setCells g 0 [x, y, z, u, v, p, q]) g t #[x, y, z, u, v, p, q] := h.all7 x y z u v p q
theorem below_setCells {B : Nat} {a : World} : ∀ {w : World} (_ : Below B a w) {g : Nat} (_ : B ≤ g) (vs : List Value) (o : Nat), Below B a (w.setCells g o vs)
  | _w, h, _g, _hg, [], _o => h
  | _w, h, g, hg, v :: vs, o => below_setCells (h.setCell (p := ⟨g, o, none⟩) hg v) hg vs (o + 1)
theorem lies_setOff {g' : Nat} {t : TypeId} {cs : Array Value} : ∀ {w : World} (_ : Lies w g' t cs) {g : Nat} (_ : g' ≠ g) (vs : List Value) (o : Nat), Lies (w.setCells g o vs) g' t cs
  | _w, h, _g, _hg, [], _o => h
  | _w, h, g, hg, v :: vs, o => lies_setOff (h.far (p := ⟨g, o, none⟩) hg v) hg vs (o + 1)
theorem tin_setOff {X : Nat → Prop} {A : Option Addr} (t : Tr) : ∀ {w : World} (_ : TIn w X t A) {g : Nat} (_ : ¬ X g) (vs : List Value) (o : Nat), TIn (w.setCells g o vs) X t A
  | _w, h, _g, _hg, [], _o => h
  | _w, h, g, hg, v :: vs, o => tin_setOff t (TIn.setCell t h ⟨g, o, none⟩ v hg) hg vs (o + 1)
theorem size_setCells : ∀ (w : World) (g : Nat) (vs : List Value) (o : Nat), (w.setCells g o vs).heap.size = w.heap.size
  | w, g, [], o => rfl
  | w, g, v :: vs, o => by
    show ((w.setCell ⟨g, o, none⟩ v).setCells g (o + 1) vs).heap.size = _
    rw [size_setCells]
    simp [World.setCell]
/-- A store of a whole struct, the world behind it a letter. -/
theorem wp_store_let {P : Program} {op : Oper} {a : Act} {w : World} {K : Act → World → Prop} {Q : Exit → Act → World → Prop} (F : World → Prop) (ty : TypeId) (x y : Operand) (ho : op.op = .store ty x y)
    (b o : Nat) (cells : Array Value) (hx : a.eval x = .pointer (some ⟨b, o, none⟩)) (hy : a.eval y = .agg cells)
    (ht : w.there b o cells.size) (hi : (P.info? ty).map (·.size) = some cells.size) (h1 : cells.all (·.oneCell') = true) (hF : F (w.setCells b o cells.toList))
    (h : ∀ W, F W → K (a.put op.dst undef) W) : op.wp P a w K Q := wp_store_mid ty x y ho b o cells hx hy ht hi h1 (h _ hF)
theorem gno_j (j : Nat) (x : Int) (w : World) (hx : x = (j : Int)) : Calls Tryz.prog 88 #[.int .i64 x] w fun e w' => e = .returned (.agg #[.int .i64 0, .string ⟨#[]⟩, .int .i64 0, .int .i64 0, .slice none 0 0, .int .i64 x, .bool false]) ∧ Below w.heap.size w w' := by
  subst hx; exact gno_any j w
theorem gyes_j (k n a : Int) (s : ByteArray) (A : Option Addr) (m c j : Nat) (x : Int) (w : World) (hx : x = (j : Int)) : Calls Tryz.prog 89 #[.agg #[.int .i64 k, .string s, .int .i64 n, .int .i64 a, .slice A m c], .int .i64 x] w
    fun e w' => e = .returned (.agg #[.int .i64 k, .string s, .int .i64 n, .int .i64 a, .slice A m c, .int .i64 x, .bool true]) ∧ Below w.heap.size w w' := by
  subst hx; exact gyes_any k n a s A m c j w
theorem below_two {a b c : World} (h : Below a.heap.size a b) (k : Below b.heap.size b c) : Below a.heap.size a c := h.trans (k.mono h.size)
end Lx
end Go.Proofs.YtobdoahdjbmflaaGreatDoor
