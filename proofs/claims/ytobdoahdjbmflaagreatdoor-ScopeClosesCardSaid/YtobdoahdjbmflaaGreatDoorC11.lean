/-
  Texts that lie one behind the other: RegK OwnLe R7B R7C R7D R7E R7F RcD RcE.
-/
import Derived.Test.YtobdoahdjbmflaaGreatDoorC10
import Derived.Test.YtobdoahdjbmflaaGreatDoorC1
import Derived.Test.YtobdoahdjbmflaaGreatDoorC3
import Derived.Test.YtobdoahdjbmflaaGreatDoorC6
import Derived.Test.YtobdoahdjbmflaaGreatDoorC4
import Derived.Deep.MidRow
import Derived.Maps.AppendAt
import Derived.Deep.RegionHeld3
import Derived.Deep.DrawnRows
import Derived.Deep.AppendLies
namespace Go.Proofs.YtobdoahdjbmflaaGreatDoor
open Go Go.RowKit
namespace Lx
set_option maxRecDepth 100000
section
variable {P : Program} {ops : Array Oper} {Q : Exit → Act → World → Prop} {md : Region.Mode} {S : World → Prop} {last : Nat}
/-- Two operations may come up. -/
theorem wpAnyK_both {i j : Nat} {oi oj : Oper} {fuel : Nat} {listed : Array Bool} {a : Act} {w : World} (hoi : ops[i]? = some oi) (hoj : ops[j]? = some oj) (hgi : oi.guard = none) (hgj : oj.guard = none) (hr : Region.ready md ops listed = [i, j])
    (h1 : ∀ K' : Act → World → Prop, Shut (∀ a w, (i ≠ last → S w) → ((i ≠ last → S w) → wpAnyK P md ops Q S last fuel (listed.setIfInBounds i true) a w) → K' a w) → Oper.wp P oi a w K' Q)
    (h2 : ∀ K' : Act → World → Prop, Shut (∀ a w, (j ≠ last → S w) → ((j ≠ last → S w) → wpAnyK P md ops Q S last fuel (listed.setIfInBounds j true) a w) → K' a w) → Oper.wp P oj a w K' Q) :
    wpAnyK P md ops Q S last (fuel + 1) listed a w := by
  refine ⟨fun h0 => (by rw [hr] at h0; cases h0), fun k hk => ?_⟩
  rw [hr] at hk
  rcases List.mem_cons.1 hk with rfl | hk
  · refine wpOp_step hoi fun K' hK => ?_
    rw [if_pos (by simp [Region.wanted, hgi])]
    exact h1 K' (fun a w hS hW => hK a w ⟨hS, hW hS⟩)
  · obtain rfl : k = j := by simpa using hk
    refine wpOp_step hoj fun K' hK => ?_
    rw [if_pos (by simp [Region.wanted, hgj])]
    exact h2 K' (fun a w hS hW => hK a w ⟨hS, hW hS⟩)
end
theorem lies_is {w : World} {g n : Nat} {t : TypeId} {cs : Array Value} (h : Lies w g t cs) (hn : cs.size = n) : w.there g 0 n := fun k hk => by
  subst hn
  exact ⟨by rw [Nat.zero_add, h.cell k, Array.getElem?_eq_getElem hk]; rfl, by rw [Nat.zero_add]; exact h.frozen k⟩
theorem lies_set4 {w : World} {g : Nat} {t : TypeId} {a b c d : Value} (h : Lies w g t #[a, b, c, d]) (x y z u : Value) : Lies (w.setCells g 0 [x, y, z, u]) g t #[x, y, z, u] := h.all x y z u
theorem below_cells {B : Nat} {a : World} : ∀ {w : World} (_ : Below B a w) {g : Nat} (_ : B ≤ g) (vs : List Value) (o : Nat), Below B a (w.setCells g o vs)
  | _, h, _, _, [], _ => h
  | _, h, g, hg, v :: vs, o => below_cells (h.setCell (p := ⟨g, o, none⟩) hg v) hg vs (o + 1)
theorem lies_offs {g' : Nat} {t : TypeId} {cs : Array Value} : ∀ {w : World} (_ : Lies w g' t cs) {g : Nat} (_ : g' ≠ g) (vs : List Value) (o : Nat), Lies (w.setCells g o vs) g' t cs
  | _, h, _, _, [], _ => h
  | _, h, g, hg, v :: vs, o => lies_offs (h.far (p := ⟨g, o, none⟩) hg v) hg vs (o + 1)
theorem ein_offs {X : Nat → Prop} {A : Option Addr} (t : Te) : ∀ {w : World} (_ : EIn w X t A) {g : Nat} (_ : ¬ X g) (vs : List Value) (o : Nat), EIn (w.setCells g o vs) X t A
  | _, h, _, _, [], _ => h
  | _, h, g, hg, v :: vs, o => ein_offs t (EIn.setCell t h ⟨g, o, none⟩ v hg) hg vs (o + 1)
theorem elin_offs {X : Nat → Prop} {A : Option Addr} (l : List Te) {i : Nat} {w : World} (h : ELIn w X l A i) {g : Nat} (hg : ¬ X g) (vs : List Value) (o : Nat) : ELIn (w.setCells g o vs) X l A i :=
  ELIn.keep l h fun g' j hX _ => by
    have hne : g' ≠ g := fun e => hg (e ▸ hX)
    refine ⟨?_, hX⟩
    have : ∀ (vs : List Value) (w : World) (o : Nat), (w.setCells g o vs).cell? ⟨g', j, none⟩ = w.cell? ⟨g', j, none⟩ := by
      intro vs
      induction vs with
      | nil => intro w o; rfl
      | cons v vs ih =>
        intro w o
        show ((w.setCell ⟨g, o, none⟩ v).setCells g (o + 1) vs).cell? _ = _
        rw [ih]
        exact World.cell?_setCell_other w ⟨g, o, none⟩ ⟨g', j, none⟩ v (fun e => by injection e with e; exact hne e.symm)
    exact this vs w o
theorem size_cells : ∀ (w : World) (g : Nat) (vs : List Value) (o : Nat), (w.setCells g o vs).heap.size = w.heap.size
  | w, g, [], o => rfl
  | w, g, v :: vs, o => by
    show ((w.setCell ⟨g, o, none⟩ v).setCells g (o + 1) vs).heap.size = _
    rw [size_cells]
    simp [World.setCell]
/-- A store of a whole struct, the world behind it a letter. -/
theorem wp_store_as {P : Program} {op : Oper} {a : Act} {w : World} {K : Act → World → Prop} {Q : Exit → Act → World → Prop} (F : World → Prop) (ty : TypeId) (x y : Operand) (ho : op.op = .store ty x y)
    (b o : Nat) (cells : Array Value) (hx : a.eval x = .pointer (some ⟨b, o, none⟩)) (hy : a.eval y = .agg cells)
    (ht : w.there b o cells.size) (hi : (P.info? ty).map (·.size) = some cells.size) (h1 : cells.all (·.oneCell') = true) (hF : F (w.setCells b o cells.toList))
    (h : ∀ W, F W → K (a.put op.dst undef) W) : op.wp P a w K Q := wp_store_mid ty x y ho b o cells hx hy ht hi h1 (h _ hF)
theorem below_on {a b c : World} (h : Below a.heap.size a b) (k : Below b.heap.size b c) : Below a.heap.size a c := h.trans (k.mono h.size)
end Lx
end Go.Proofs.YtobdoahdjbmflaaGreatDoor
namespace Go.Proofs.YtobdoahdjbmflaaGreatDoor
open Go.RowKit
namespace Lx
theorem own_le {w : World} {base : Nat} {e : TypeId} {size : Nat} {A : Option Addr} {m c : Nat} {n : Nat} {xs : List Value} (h : w.ownsRow base e size (.slice A m c) n xs) : n ≤ c := by
  rcases h.2 with ⟨h1, rfl⟩ | ⟨g, cap, cur, h1, _, _, hle, _⟩
  · exact Nat.zero_le _
  · injection h1 with _ _ h2
    omega
theorem tv_own {k n pc : Int} {nm : ByteArray} {pl : List Tr} {B : Option Addr} {bc : Nat} (h : pl.length ≤ bc) : Ending.returned (.agg #[.int .i64 k, .string nm, .int .i64 n, .int .i64 pc, .slice B pl.length bc]) = .returned (tv (.node k nm n pc pl) B bc) := by
  unfold tv
  simp only [Tr.kind, Tr.name, Tr.n, Tr.place, Tr.parts]
  rw [capF_of h]
end Lx
end Go.Proofs.YtobdoahdjbmflaaGreatDoor
namespace Go.Proofs.YtobdoahdjbmflaaGreatDoor
open Go.RowKit
namespace Lx
set_option maxRecDepth 100000
end Lx
end Go.Proofs.YtobdoahdjbmflaaGreatDoor
namespace Go.Proofs.YtobdoahdjbmflaaGreatDoor
open Go.RowKit
namespace Lx
set_option maxRecDepth 100000
end Lx
end Go.Proofs.YtobdoahdjbmflaaGreatDoor
namespace Go.Proofs.YtobdoahdjbmflaaGreatDoor
open Go.RowKit
namespace Lx
set_option maxRecDepth 100000
end Lx
end Go.Proofs.YtobdoahdjbmflaaGreatDoor
namespace Go.Proofs.YtobdoahdjbmflaaGreatDoor
open Go.RowKit
namespace Lx
set_option maxRecDepth 100000
end Lx
end Go.Proofs.YtobdoahdjbmflaaGreatDoor
namespace Go.Proofs.YtobdoahdjbmflaaGreatDoor
open Go.RowKit
namespace Lx
set_option maxRecDepth 100000
end Lx
end Go.Proofs.YtobdoahdjbmflaaGreatDoor
namespace Go.Proofs.YtobdoahdjbmflaaGreatDoor
open Go.RowKit
namespace Lx
set_option maxRecDepth 100000
set_option maxHeartbeats 4000000 in
theorem within5_any (k n a : Int) (s : ByteArray) (l : List Tr) (A : Option Addr) (m c : Nat) (i : Nat) (b : List ByteArray) (Ab : Option Addr) (mb cb : Nat) (w : World) (hm : m = l.length) (hm9 : m ≤ 10000) (h8 : k = 8 → 0 ≤ n ∧ n ≤ m) (hmb : mb = b.length) (hb9 : mb ≤ 80000)
    (hI : LIn w Any l A 0) (hB : SIn w Any b Ab) (hAb : Ab = none → cb = 0) :
    Calls Tryz.prog 48 #[.agg #[.int .i64 k, .string s, .int .i64 n, .int .i64 a, .slice A m c], .int .i64 i, .slice Ab mb cb] w (SGive (innerN k n s i l b) w) := by
  have hb : Below w.heap.size w (w.alloc (.cells #[.int .i64 k, .string s, .int .i64 n, .int .i64 a, .slice A m c] 24)) := (Below.refl _ w).alloc (Nat.le_refl _) _
  have hL := Lies.new w 24 #[.int .i64 k, .string s, .int .i64 n, .int .i64 a, .slice A m c]
  have HW := Lib.hid (with5_any b s Ab mb cb (w.alloc (.cells #[.int .i64 k, .string s, .int .i64 n, .int .i64 a, .slice A m c] 24)) hmb (by omega) (hB.below hb (Nat.le_refl _)) hAb)
  have HM := Lib.hid hmb
  have HNO : Hid (SGive b w (.returned (.slice Ab mb cb)) (w.alloc (.cells #[.int .i64 k, .string s, .int .i64 n, .int .i64 a, .slice A m c] 24))) := Lib.hid ⟨Ab, cb, by rw [hmb], (hB.below hb (Nat.le_refl _)).any, hAb, hb⟩
  rcases (by omega : k = 2 ∨ k = 5 ∨ (k = 4 ∧ i = 1) ∨ (k = 4 ∧ i ≠ 1) ∨ k = 8 ∨ (k ≠ 2 ∧ k ≠ 5 ∧ k ≠ 4 ∧ k ≠ 8)) with rfl | rfl | ⟨rfl, rfl⟩ | ⟨rfl, hi⟩ | rfl | ⟨h2, h5, h4, h8'⟩
  · have HE : Hid (innerN 2 n s i l b = b ++ [s]) := Lib.hid rfl
    clear h8 hI hB hL hmb HNO HM hm
    go_enter Tryz.func48, Tryz.ntmps48
    go_wp2_with fail
    refine HW.out.mono ?_
    rintro e w2 ⟨A2, c2, rfl, hS2, hA2, hb2⟩
    have hbw := hb.trans (hb2.mono hb.size)
    rw [← HE.out] at hS2 ⊢
    obtain ⟨L, hLL⟩ : ∃ L, L = innerN 2 n s i l b := ⟨_, rfl⟩
    rw [← hLL] at hS2 ⊢
    have HLL := Lib.hid hLL
    clear hLL
    go_wp2_with fail
    go_ret
    exact ⟨A2, c2, by rw [← HLL.out]; rfl, by rw [← HLL.out]; exact hS2, hA2, hbw⟩
  · have HE : Hid (innerN 5 n s i l b = b ++ [s]) := Lib.hid rfl
    clear h8 hI hB hL hmb HNO HM hm
    go_enter Tryz.func48, Tryz.ntmps48
    go_wp2_with fail
    refine HW.out.mono ?_
    rintro e w2 ⟨A2, c2, rfl, hS2, hA2, hb2⟩
    have hbw := hb.trans (hb2.mono hb.size)
    rw [← HE.out] at hS2 ⊢
    obtain ⟨L, hLL⟩ : ∃ L, L = innerN 5 n s i l b := ⟨_, rfl⟩
    rw [← hLL] at hS2 ⊢
    have HLL := Lib.hid hLL
    clear hLL
    go_wp2_with fail
    go_ret
    exact ⟨A2, c2, by rw [← HLL.out]; rfl, by rw [← HLL.out]; exact hS2, hA2, hbw⟩
  · have HE : Hid (innerN 4 n s 1 l b = b ++ [s]) := Lib.hid rfl
    clear h8 hI hB hL hmb HNO HM hm
    go_enter Tryz.func48, Tryz.ntmps48
    go_wp2_with fail
    refine HW.out.mono ?_
    rintro e w2 ⟨A2, c2, rfl, hS2, hA2, hb2⟩
    have hbw := hb.trans (hb2.mono hb.size)
    rw [← HE.out] at hS2 ⊢
    obtain ⟨L, hLL⟩ : ∃ L, L = innerN 4 n s 1 l b := ⟨_, rfl⟩
    rw [← hLL] at hS2 ⊢
    have HLL := Lib.hid hLL
    clear hLL
    go_wp2_with fail
    go_ret
    exact ⟨A2, c2, by rw [← HLL.out]; rfl, by rw [← HLL.out]; exact hS2, hA2, hbw⟩
  · have HE : Hid (innerN 4 n s i l b = b) := Lib.hid (by simp [innerN, hi])
    have hi1 : ((i : Int) == 1) = false := by simp; omega
    clear h8 hI hB hL hmb HM hm hi HW
    go_enter Tryz.func48, Tryz.ntmps48
    go_wp2_with fail
    go_ret
    rw [HE.out]
    exact HNO.out
  · obtain ⟨h0, hn⟩ := h8 rfl
    have HE : Hid (innerN 8 n s i l b = b ++ varsN n l) := Lib.hid rfl
    have hm1 : m ≤ l.length := by omega
    have HI := Lib.hid hI
    have HV : Hid (((varsN n l).length : Int) = n) := Lib.hid (varsN_len l n h0 (by omega))
    have HVA : Hid (∀ (i : Nat) (hi : (i : Int) < n) (hl : i < l.length), (varsN n l).take (i + 1) = (varsN n l).take i ++ [(l[i]'hl).name]) := Lib.hid (varsN_take l n h0)
    have HS0 := Lib.hid (hB.below hb (Nat.le_refl _)).any
    have HA0 := Lib.hid hAb
    clear hI hm hB hAb hmb HW HNO
    go_enter Tryz.func48, Tryz.ntmps48
    go_wp2_with fail
    go_loopw [2, 7] (fun v x wr => ∃ (q : Nat) (A2 : Option Addr) (m2 c2 : Nat), (q : Int) ≤ n ∧ x = .int .i64 q ∧ v = .slice A2 m2 c2 ∧ m2 = mb + q ∧ Hid (SIn wr Any (b ++ (varsN n l).take q) A2 ∧ (A2 = none → c2 = 0)) ∧ Lies wr w.heap.size 24 #[.int .i64 8, .string s, .int .i64 n, .int .i64 a, .slice A m c] ∧ Below w.heap.size w wr) (fun _ x _ => n.toNat - (intOf x).toNat)
    case atStart => exact ⟨0, Ab, mb, cb, by omega, rfl, rfl, rfl, Lib.hid ⟨by simpa using HS0.out, HA0.out⟩, hL, hb⟩
    case round =>
      obtain ⟨q, A2, m2, c2, hq, rfl, rfl, hm2, HS, hLr, hbw⟩ := hrel
      have hbs := hbw.size
      have c2' := hLr.five.1.2.2.1
      by_cases hlt : (q : Int) < n
      · have hqa : q < l.length := by omega
        have hqm : q < m := by omega
        obtain ⟨g, o, A', c', ⟨hA, _⟩, d0, d1, d2, d3, d4, _⟩ := LIn.at_ l (LIn.keep l HI.out fun g j _ h => ⟨hbw.cell (p := ⟨g, j, none⟩) h, trivial⟩) q hqa
        subst hA
        simp only [Nat.zero_add] at d1
        have HN1 : Hid ((varsN n l).take (q + 1) = (varsN n l).take q ++ [(l[q]'hqa).name]) := Lib.hid (HVA.out q hlt hqa)
        obtain ⟨x, hx⟩ : ∃ x, x = (l[q]'hqa).name := ⟨_, rfl⟩
        rw [← hx] at d1 HN1
        clear hx d0 d2 d3 d4
        have c4 := hLr.five.1.2.2.2.2
        have hvl : ((varsN n l).take q).length = q := by have := HV.out; rw [List.length_take]; omega
        have HC := Lib.hid (with5_any (b ++ (varsN n l).take q) x A2 m2 c2 wr (by rw [List.length_append, hvl, ← HM.out]; exact hm2) (by omega) HS.out.1 HS.out.2)
        have HL9 : Hid (((b ++ (varsN n l).take q) ++ [x]).length = mb + (q + 1)) := Lib.hid (by rw [List.length_append, List.length_append, hvl, List.length_singleton, HM.out]; omega)
        have HQ9 : Hid ((b ++ (varsN n l).take q) ++ [x] = b ++ (varsN n l).take (q + 1)) := Lib.hid (by rw [HN1.out, List.append_assoc])
        clear hvl hm2
        go_wp2_with fail
        refine HC.out.mono ?_
        rintro e w2 ⟨A3, c3, rfl, hS3, hA3, hb3⟩
        have hL3 := hLr.below hb3 hLr.lt
        have hbw3 := hbw.trans (hb3.mono hbs)
        have HS3 : Hid (SIn w2 Any (b ++ (varsN n l).take (q + 1)) A3 ∧ (A3 = none → c3 = 0)) := Lib.hid ⟨by rw [← HQ9.out]; exact hS3, hA3⟩
        rw [HL9.out]
        clear hS3 hA3 hb3 hLr hbw hbs HC c4 c2' d1
        go_wp2_with fail
        go_roundw
        case rel => exact ⟨q + 1, A3, _, c3, by omega, by go_num, rfl, rfl, HS3, hL3, hbw3⟩
        case measure => simp [intOf]; omega
      · go_wp2_with fail
        go_ret
        have e1 := HV.out
        have := HS.out
        rw [List.take_of_length_le (by omega)] at this
        exact ⟨A2, c2, by show Ending.returned (.slice A2 (mb + q) c2) = _; rw [HE.out, List.length_append, ← HM.out, show (varsN n l).length = q from by omega], by rw [HE.out]; exact this.1, this.2, hbw⟩
  · have HE : Hid (innerN k n s i l b = b) := Lib.hid (by simp [innerN, h2, h5, h4, h8'])
    have e2 : (k == 2) = false := by simpa using h2
    have e5 : (k == 5) = false := by simpa using h5
    have e4 : (k == 4) = false := by simpa using h4
    have e8 : (k == 8) = false := by simpa using h8'
    clear h8 hI hB hL hmb HM hm HW h2 h5 h4 h8'
    go_enter Tryz.func48, Tryz.ntmps48
    go_wp2_with fail
    go_ret
    rw [HE.out]
    exact HNO.out
end Lx
end Go.Proofs.YtobdoahdjbmflaaGreatDoor
namespace Go.Proofs.YtobdoahdjbmflaaGreatDoor
open Go.RowKit
namespace Lx
set_option maxRecDepth 100000
theorem own_empty {w : World} {b base : Nat} (h : Lies w b 43 #[]) (hb : base ≤ b) : w.ownsRow base 43 2 (.slice (some ⟨b, 0, none⟩) 0 0) 0 [] :=
  ⟨by simp, .inr ⟨b, 0, #[], rfl, hb, h, Nat.le_refl _, by simp [maxLen], by simp, by simp⟩⟩
theorem cellsA_one (l : List (ByteArray × Int)) : ∀ u ∈ cellsA l, u.oneCell' = true := fun u hu => by
  simp only [cellsA, List.mem_flatMap, List.mem_cons, List.not_mem_nil, or_false] at hu
  obtain ⟨a, _, rfl | rfl⟩ := hu <;> rfl
theorem sizeL_drop_le (l : List Tr) (i : Nat) : sizeL (l.drop i) ≤ sizeL l := by
  induction l generalizing i with
  | nil => simp
  | cons a r ih =>
    cases i with
    | zero => simp
    | succ i => simp only [List.drop_succ_cons, sizeL]; have := ih i; omega
/-- What a function that answers arities answers. -/
def AGive (l : List (ByteArray × Int)) (w : World) (e : Ending) (w' : World) : Prop :=
  ∃ A c, e = .returned (.slice A l.length c) ∧ AIn w' Any l A ∧ Below w.heap.size w w'
set_option maxHeartbeats 8000000 in
theorem cons5_any (d : Nat) : ∀ (t : Tr) (A : Option Addr) (c : Nat) (l : List (ByteArray × Int)) (Al : Option Addr) (cl : Nat) (w : World), depthT t ≤ d → okT t → l ≠ [] → l.length + sizeT t ≤ 10000 → TIn w Any t A → AIn w Any l Al →
    Calls Tryz.prog 34 #[tv t A c, .slice Al l.length cl] w (AGive (onceN l (metT t)) w) := by
  induction d with
  | zero => intro t A c l Al cl w h; cases t; rw [depthT] at h; omega
  | succ d ih =>
    intro t A c l Al cl w hd hok hne hsz hI hAl
    obtain ⟨k, s, n, a, lt⟩ := t
    have hdL : depthL lt ≤ d := by rw [depthT] at hd; omega
    have hsz2 : l.length + sizeL lt + 1 ≤ 10000 := by rw [sizeT] at hsz; omega
    rw [okT] at hok
    rw [TIn] at hI
    have HI := Lib.hid hI.2.2
    have HOK := Lib.hid hok.2
    have hn8 : k = 8 → 0 ≤ n := fun e => (hok.1.1 e).1
    have HFM0 : fromN k n ≤ lt.length := by
      rw [fromN]
      split
      · rename_i h; have := hok.1.1 h; omega
      · omega
    have HFR : Hid (metL k n 0 lt = metL k n (fromN k n) (lt.drop (fromN k n))) := Lib.hid (by have := metL_skip k n lt 0 (by omega) HFM0; simpa using this)
    have HMT : Hid (metT (.node k s n a lt) = (if 0 ≤ ownN k n lt then [(s, ownN k n lt)] else []) ++ metL k n 0 lt) := Lib.hid (by rw [metT])
    have h9 : lt.length ≤ 9 := hok.1.2.2.2.2.2.2
    have HOWN0 := Lib.hid (fun W => own5_any k n a s A lt lt.length c W rfl)
    obtain ⟨O, hOe⟩ : ∃ O, O = ownN k n lt := ⟨_, rfl⟩
    rw [← hOe] at HMT HOWN0
    obtain ⟨g0, o0, rfl⟩ : ∃ g o, Al = some ⟨g, o, none⟩ := by
      cases l with
      | nil => exact absurd rfl hne
      | cons p r => obtain ⟨g, o, h, _⟩ := hAl 0 (by simp); exact ⟨g, o, h⟩
    have hl1 : 0 < l.length := by cases l with | nil => exact absurd rfl hne | cons p r => simp
    show Calls Tryz.prog 34 #[.agg #[.int .i64 k, .string s, .int .i64 n, .int .i64 a, .slice A lt.length (capF lt.length c)], .slice (some ⟨g0, o0, none⟩) l.length cl] w _
    replace HOWN0 := Lib.hid (fun W => own5_any k n a s A lt lt.length (capF lt.length c) W rfl)
    rw [← hOe] at HOWN0
    generalize capF lt.length c = c at HOWN0 ⊢
    have HAL1 := Lib.hid hAl
    generalize g0 = gl at HAL1 ⊢
    generalize o0 = ol at HAL1 ⊢
    obtain ⟨m, hm⟩ : ∃ m, m = lt.length := ⟨_, rfl⟩
    rw [← hm] at HOWN0 ⊢
    have hm1 : m ≤ lt.length := by omega
    have hm2 : lt.length ≤ m := by omega
    have HFM : Hid (fromN k n ≤ m) := Lib.hid (by omega)
    have hm9 : m ≤ 9 := by omega
    obtain ⟨ml, hml⟩ : ∃ ml, ml = l.length := ⟨_, rfl⟩
    rw [← hml]
    have HML := Lib.hid hml
    have hml1 : 0 < ml := by omega
    have HNE : Hid (0 < ml) := Lib.hid hml1
    have hml2 : ml ≤ 10000 := by omega
    have hszm : ml + sizeL lt + 1 ≤ 10000 := by omega
    have HZ : Hid (l.length + sizeL lt + 1 ≤ 10000) := Lib.hid hsz2
    obtain ⟨i0, hi0, hz0, hz1, hz2⟩ : ∃ i, Tryz.prog.info? 43 = some i ∧ i.zero = some (.agg #[.string ⟨#[]⟩, .int .i64 0]) ∧ i.size = 2 ∧ i.bytes = 24 := by
      have h := infoA
      cases hq : Tryz.prog.info? 43 with
      | none => rw [hq] at h; cases h
      | some i => rw [hq] at h; simp only [Option.map_some, Option.some.injEq, Prod.mk.injEq] at h; exact ⟨i, rfl, h.1, h.2.1, h.2.2⟩
    have hb0 : Below w.heap.size w (w.alloc (.cells #[.int .i64 k, .string s, .int .i64 n, .int .i64 a, .slice A m c] 24)) := (Below.refl _ w).alloc (Nat.le_refl _) _
    have hL := Lies.new w 24 #[.int .i64 k, .string s, .int .i64 n, .int .i64 a, .slice A m c]
    have HAL0 : Hid (∀ X, Below w.heap.size w X → AIn X Any l (some ⟨gl, ol, none⟩)) := Lib.hid fun X h => AIn.below HAL1.out h (Nat.le_refl _)
    have HOWN : Hid (∀ X, Below w.heap.size w X → Calls Tryz.prog 45 #[.agg #[.int .i64 k, .string s, .int .i64 n, .int .i64 a, .slice A m c]] X fun e w' => e = .returned (.int .i64 O) ∧ Below X.heap.size X w') := Lib.hid fun X _ => HOWN0.out X
    clear hm hd hsz hsz2 hok hI hAl HAL1 HOWN0 hne hOe hml h9 HFM0 hl1
    by_cases hO : 0 ≤ O
    · have hd : decide (0 ≤ O) = true := decide_eq_true hO
      obtain ⟨q, hq⟩ : ∃ q, q = ofN l s := ⟨_, rfl⟩
      have HOFC := Lib.hid (fun X (hX : AIn X Any l (some ⟨gl, ol, none⟩)) => of5_any l s (some ⟨gl, ol, none⟩) ml cl X HML.out (by omega) hX)
      rw [← hq] at HOFC
      by_cases hof : q < 0
      · have hd2 : decide (q < 0) = true := decide_eq_true hof
        have HOF : Hid (ofN l s < 0) := Lib.hid (by rw [← hq]; exact hof)
        clear hq
        go_enter Tryz.func34, Tryz.ntmps34
        go_wp2_with fail
        refine (HOWN.out _ hb0).mono ?_
        rintro e w1 ⟨rfl, hb1⟩
        have hb2 := hb0.trans (hb1.mono hb0.size)
        have hL2 := hL.below hb1 hL.lt
        obtain ⟨⟨x0, x1, x2, x3, x4⟩, _⟩ := hL2.five
        have HOC := Lib.hid (HOFC.out w1 (HAL0.out _ hb2))
        go_wp2_with fail
        refine HOC.out.mono ?_
        rintro e V ⟨rfl, hbV⟩
        replace hL2 := hL2.below hbV hL2.lt
        replace hb2 := hb2.trans (hbV.mono hb2.size)
        clear hb1 hbV HOC HOFC x0 x1 x2 x3 x4
        have HSS : Hid (∀ V', Below V.heap.size V V' → (fun V' : World => (V'.cell? ⟨w.heap.size, 0, none⟩ = some (.int .i64 k) ∧ V'.cell? ⟨w.heap.size, 1, none⟩ = some (.string s) ∧ V'.cell? ⟨w.heap.size, 2, none⟩ = some (.int .i64 n) ∧ V'.cell? ⟨w.heap.size, 3, none⟩ = some (.int .i64 a) ∧ V'.cell? ⟨w.heap.size, 4, none⟩ = some (.slice A m c))) V') := Lib.hid fun V' h =>
          ⟨(h.cell (p := ⟨w.heap.size, 0, none⟩) hL2.lt).trans (hL2.cell 0), (h.cell (p := ⟨w.heap.size, 1, none⟩) hL2.lt).trans (hL2.cell 1), (h.cell (p := ⟨w.heap.size, 2, none⟩) hL2.lt).trans (hL2.cell 2), (h.cell (p := ⟨w.heap.size, 3, none⟩) hL2.lt).trans (hL2.cell 3), (h.cell (p := ⟨w.heap.size, 4, none⟩) hL2.lt).trans (hL2.cell 4)⟩
        have HAL : Hid (∀ V', Below V.heap.size V V' → AIn V' Any l (some ⟨gl, ol, none⟩)) := Lib.hid fun V' h => HAL0.out _ (hb2.trans (h.mono hb2.size))
        replace HOWN : Hid (∀ X, Below V.heap.size V X → Calls Tryz.prog 45 #[.agg #[.int .i64 k, .string s, .int .i64 n, .int .i64 a, .slice A m c]] X fun e w' => e = .returned (.int .i64 O) ∧ Below X.heap.size X w') := Lib.hid fun X hX => HOWN.out X (hb2.trans (hX.mono hb2.size))
        go_upto_region 2 with fail
        have hb_1 : Below V.heap.size V V := Below.refl _ _
        refine wp_region_K (S := (fun V' : World => (V'.cell? ⟨w.heap.size, 0, none⟩ = some (.int .i64 k) ∧ V'.cell? ⟨w.heap.size, 1, none⟩ = some (.string s) ∧ V'.cell? ⟨w.heap.size, 2, none⟩ = some (.int .i64 n) ∧ V'.cell? ⟨w.heap.size, 3, none⟩ = some (.int .i64 a) ∧ V'.cell? ⟨w.heap.size, 4, none⟩ = some (.slice A m c)))) 10 rfl (HSS.out _ hb_1.drew) (fun hSs => ?_)
        change wpAnyK _ _ _ _ _ _ 11 (Array.replicate 11 false) _ _
        refine wpAnyK_take (i := 1) (oi := ⟨some 17, _, _, _, _, _⟩) (v := .slice (some ⟨gl, ol, none⟩) ml cl) rfl (by kernel_rfl) (by kernel_rfl) (by kernel_rfl) (by kernel_rfl) (fun _ _ _ h => h) (.inl ⟨by kernel_rfl, fun W hW => by kernel_rfl⟩) hSs ?_
        try simp only [Act.put, List.setIfInBounds_toArray, List.set_cons_zero, List.set_cons_succ]
        refine wpAnyK_take (i := 3) (oi := ⟨some 19, _, _, _, _, _⟩) (v := .pointer (some ⟨w.heap.size, 1, none⟩)) rfl (by kernel_rfl) (by kernel_rfl) (by kernel_rfl) (by kernel_rfl) (fun _ _ _ h => h) (.inl ⟨by kernel_rfl, fun W hW => by first | (obtain ⟨z0, z1, z2, z3, z4⟩ := hW; go_simp; done) | (obtain ⟨z0, z1, z2, z3, z4⟩ := hW; go_simp; omega) | (obtain ⟨z0, z1, z2, z3, z4⟩ := hW; go_simp; exact IntWalk.i64_in _ (by omega)) | (obtain ⟨z0, z1, z2, z3, z4⟩ := hW; go_simp; simp [*]; done)⟩) hSs ?_
        try simp only [Act.put, List.setIfInBounds_toArray, List.set_cons_zero, List.set_cons_succ]
        refine wpAnyK_take (i := 4) (oi := ⟨some 20, _, _, _, _, _⟩) (v := .string s) rfl (by kernel_rfl) (by kernel_rfl) (by kernel_rfl) (by kernel_rfl) (fun _ _ _ h => h) (.inl ⟨by kernel_rfl, fun W hW => by first | (obtain ⟨z0, z1, z2, z3, z4⟩ := hW; go_simp; done) | (obtain ⟨z0, z1, z2, z3, z4⟩ := hW; go_simp; omega) | (obtain ⟨z0, z1, z2, z3, z4⟩ := hW; go_simp; exact IntWalk.i64_in _ (by omega)) | (obtain ⟨z0, z1, z2, z3, z4⟩ := hW; go_simp; simp [*]; done)⟩) hSs ?_
        try simp only [Act.put, List.setIfInBounds_toArray, List.set_cons_zero, List.set_cons_succ]
        refine wpAnyK_take (i := 5) (oi := ⟨some 21, _, _, _, _, _⟩) (v := .agg #[.int .i64 k, .string s, .int .i64 n, .int .i64 a, .slice A m c]) rfl (by kernel_rfl) (by kernel_rfl) (by kernel_rfl) (by kernel_rfl) (fun _ _ _ h => h) (.inl ⟨by kernel_rfl, fun W hW => by first | (obtain ⟨z0, z1, z2, z3, z4⟩ := hW; go_simp; done) | (obtain ⟨z0, z1, z2, z3, z4⟩ := hW; go_simp; omega) | (obtain ⟨z0, z1, z2, z3, z4⟩ := hW; go_simp; exact IntWalk.i64_in _ (by omega)) | (obtain ⟨z0, z1, z2, z3, z4⟩ := hW; go_simp; simp [*]; done)⟩) hSs ?_
        try simp only [Act.put, List.setIfInBounds_toArray, List.set_cons_zero, List.set_cons_succ]
        refine wpAnyK_one  (i := 0) rfl rfl (by kernel_rfl) (fun K hK => ?_)
        go_simp
        have hb_2 := Below.alloc hb_1 hb_1.size (.cells #[] 43)
        have hl_2 : Lies (V.alloc (.cells #[] 43)) (V.heap.size) 43 #[] := Lies.new _ _ _
        refine hK.out _ _ (fun _ => HSS.out _ (hb_2.drew)) (fun hS9 => ?_)
        have hS_2 := hS9 (by decide)
        clear hK K hS9
        try simp only [Act.put, List.setIfInBounds_toArray, List.set_cons_zero, List.set_cons_succ]
        refine wpAnyK_one  (i := 2) rfl rfl (by kernel_rfl) (fun K hK => ?_)
        refine wp_append_lies _ _ _ _ rfl (V.heap.size) 43 i0 _ 2 24 Tryz.underlying34 hi0 hz0 hz1 hz2 rfl (by omega) (.slice (some ⟨V.heap.size, 0, none⟩) 0 0) 0 [] rfl (own_empty hl_2 (Nat.le_refl _))
          ⟨gl, ol, none⟩ ml cl (cellsA l) rfl (by rw [cellsA_len, HML.out]) (AIn.cells (HAL.out _ (hb_2.drew))) (fun u hu => cellsA_one l u hu)
          (by omega) (by simp only [maxLen]; omega) (by omega) (by simp) (V.heap.size + 1) (by simp) ?_
        intro g_3 c_3 u_3 o_3 hg_3 hat_3 hlt_3
        simp only [Nat.zero_add, List.nil_append] at o_3
        have hb_3 := Below.grown (hb_2.drew) hg_3 (by simp) (fun q hq => ((own_empty hl_2 (Nat.le_refl _)).lt q hq).1)
        refine hK.out _ _ (fun _ => HSS.out _ hb_3) (fun hS9 => ?_)
        have hS_3 := hS9 (by decide)
        clear hK K hS9
        try simp only [Act.put, List.setIfInBounds_toArray]
        refine wpAnyK_one  (i := 6) rfl rfl (by kernel_rfl) (fun K hK => ?_)
        go_simp
        refine (HOWN.out _ hb_3 ).mono ?_
        rintro e u_4 ⟨rfl, hq_4⟩
        have hb_4 := hb_3.trans (hq_4.mono hb_3.size)
        have o_4 := own_below o_3 hq_4 (Nat.le_refl _)
        refine hK.out _ _ (fun _ => HSS.out _ hb_4) (fun hS9 => ?_)
        have hS_4 := hS9 (by decide)
        clear hK K hS9
        try simp only [Act.put, List.setIfInBounds_toArray, List.set_cons_zero, List.set_cons_succ]
        refine wpAnyK_take (i := 7) (oi := ⟨some 23, _, _, _, _, _⟩) (v := .agg #[.string s, .int .i64 O]) rfl (by kernel_rfl) (by kernel_rfl) (by kernel_rfl) (by kernel_rfl) (fun _ _ _ h => h) (.inl ⟨by kernel_rfl, fun W hW => by first | (obtain ⟨z0, z1, z2, z3, z4⟩ := hW; go_simp; done) | (obtain ⟨z0, z1, z2, z3, z4⟩ := hW; go_simp; omega) | (obtain ⟨z0, z1, z2, z3, z4⟩ := hW; go_simp; exact IntWalk.i64_in _ (by omega)) | (obtain ⟨z0, z1, z2, z3, z4⟩ := hW; go_simp; simp [*]; done)⟩) hS_4 ?_
        try simp only [Act.put, List.setIfInBounds_toArray, List.set_cons_zero, List.set_cons_succ]
        refine wpAnyK_one  (i := 8) rfl rfl (by kernel_rfl) (fun K hK => ?_)
        go_simp
        have hb_5 := Below.alloc hb_4 hb_4.size (.cells #[.string s, .int .i64 O] 43)
        have hl_5 : Lies (u_4.alloc (.cells #[.string s, .int .i64 O] 43)) (u_4.heap.size) 43 #[.string s, .int .i64 O] := Lies.new _ _ _
        have o_5 := (o_4).alloc (.cells #[.string s, .int .i64 O] 43)
        refine hK.out _ _ (fun _ => HSS.out _ hb_5) (fun hS9 => ?_)
        have hS_5 := hS9 (by decide)
        clear hK K hS9
        try simp only [Act.put, List.setIfInBounds_toArray, List.set_cons_zero, List.set_cons_succ]
        refine wpAnyK_one  (i := 9) rfl rfl (by kernel_rfl) (fun K hK => ?_)
        refine wp_append_lies _ _ _ _ rfl (V.heap.size) 43 i0 _ 2 24 Tryz.underlying34 hi0 hz0 hz1 hz2 rfl (by omega) (.slice (some ⟨g_3, 0, none⟩) ml c_3) ml (cellsA l) rfl o_5
          ⟨u_4.heap.size, 0, none⟩ 1 1 [.string s, .int .i64 O] rfl rfl (World.news_of_block (cs := #[.string s, .int .i64 O]) (t := 43) (fr := (0, 0)) hl_5) (by simp [Value.oneCell'])
          (by omega) (by simp only [maxLen]; omega) (by omega) (by have := hb_5.size; exact this) (u_4.heap.size + 1) (by simp) ?_
        intro g_6 c_6 u_6 o_6 hg_6 hat_6 hlt_6
        have hb_6 := Below.grown hb_5 hg_6 (by have := hb_5.size; exact this) (fun q hq => ((o_5).lt q hq).1)
        refine hK.out _ _ (fun _ => HSS.out _ hb_6) (fun hS9 => ?_)
        have hS_6 := hS9 (by decide)
        clear hK K hS9
        try simp only [Act.put, List.setIfInBounds_toArray]
        refine wpAnyK_one  (i := 10) rfl rfl (by kernel_rfl) (fun K hK => ?_)
        go_simp
        refine hK.out _ _ (fun h => absurd rfl h) (fun _ => ?_)
        clear hK K
        try simp only [Act.put, List.setIfInBounds_toArray, List.set_cons_zero, List.set_cons_succ]
        refine wpAnyK_done (by kernel_rfl) ?_ _
        have hb9 := hb2.trans (hb_6.mono hb2.size)
        have HA9 : Hid (AIn u_6 Any (l ++ [(s, O)]) (some ⟨g_6, 0, none⟩)) := Lib.hid (AIn.any (AIn.owned (A := some ⟨g_6, 0, none⟩) (n := ml + 1) (c := c_6) (by
          have e : cellsA (l ++ [(s, O)]) = cellsA l ++ [.string s, .int .i64 O] := by simp [cellsA]
          rw [e]; exact o_6)))
        have HM9 : Hid (ml + 1 = (l ++ [(s, O)]).length) := Lib.hid (by rw [List.length_append, ← HML.out]; rfl)
        have HQ9 : Hid (onceN (l ++ [(s, O)]) (metL k n (fromN k n) (lt.drop (fromN k n))) = onceN l (metT (.node k s n a lt))) := Lib.hid (by
          rw [← HFR.out, HMT.out, onceN_app]
          rw [if_pos (show 0 ≤ O from hO)]
          rw [onceN, if_pos (show ofN l s < 0 from HOF.out)]
          rfl)
        have hL9 := hL2.below hb_6 hL2.lt
        clear o_6 hg_6 hat_6 hlt_6 hb_6
        have HF := Lib.hid (from5_any k n a s A m c u_6 hn8)
        obtain ⟨⟨y0, y1, y2, y3, y4⟩, _⟩ := hL9.five
        go_wp2_with fail
        refine HF.out.mono ?_
        rintro e w8 ⟨rfl, hb8⟩
        have hbw := hb9.trans (hb8.mono hb9.size)
        have hLw := hL9.below hb8 hL9.lt
        have HA8 := Lib.hid (AIn.below (HA9.out) hb8 (Nat.le_refl _))
        obtain ⟨fr, hfr⟩ : ∃ fr, fr = fromN k n := ⟨_, rfl⟩
        have HQ8 : Hid (onceN (l ++ [(s, O)]) (metL k n fr (lt.drop fr)) = onceN l (metT (.node k s n a lt))) := by rw [hfr]; exact HQ9
        have hfm : fr ≤ m := by rw [hfr]; exact HFM.out
        have HFRO := Lib.hid hfr
        have HS8 : Hid ((l ++ [(s, O)]).length + sizeL (lt.drop fr) ≤ 10000) := Lib.hid (by
          have h1 := HM9.out
          have h2 : sizeL (lt.drop fr) ≤ sizeL lt := sizeL_drop_le lt fr
          omega)
        rw [← hfr]
        clear hfr hb8 hL9 HF hb9 y0 y1 y2 y3 y4
        go_wp2_with fail
        go_loopw [1, 5] (fun v x wr => ∃ (i : Nat) (acc : List (ByteArray × Int)) (A2 : Option Addr) (ma c2 : Nat), i ≤ m ∧ x = .int .i64 i ∧ v = .slice A2 ma c2 ∧ Hid (ma = acc.length) ∧ Hid (acc.length + sizeL (lt.drop i) ≤ 10000) ∧ Hid (onceN acc (metL k n i (lt.drop i)) = onceN l (metT (.node k s n a lt))) ∧ Hid (acc ≠ []) ∧ fr ≤ i ∧ Hid (AIn wr Any acc A2) ∧ Lies wr w.heap.size 24 #[.int .i64 k, .string s, .int .i64 n, .int .i64 a, .slice A m c] ∧ Below w.heap.size w wr) (fun _ x _ => m - (intOf x).toNat)
        case atStart => exact ⟨fr, l ++ [(s, O)], some ⟨g_6, 0, none⟩, (ml + 1), c_6, hfm, rfl, rfl, HM9, HS8, HQ8, Lib.hid (by have h1 := HM9.out; intro e; rw [e] at h1; have := HNE.out; simp at h1 <;> omega), Nat.le_refl _, HA8, hLw, hbw⟩
        case round =>
          clear hLw hbw HA8 HQ8 HS8
          obtain ⟨i, acc, A2, ma, c2, hi, rfl, rfl, HMA, HSZ, HQ, HNN, hfi, HAC, hLr, hbr⟩ := hrel
          have hbs := hbr.size
          have c4 := hLr.five.1.2.2.2.2
          by_cases hlt : i < m
          · have hia : i < lt.length := by omega
            obtain ⟨g, o, A', c', ⟨hA, _⟩, d0, d1, d2, d3, d4, hIn⟩ := LIn.at_ lt (LIn.keep lt HI.out fun g j _ h => ⟨hbr.cell (p := ⟨g, j, none⟩) h, trivial⟩) i hia
            subst hA
            simp only [Nat.zero_add] at d0 d1 d2 d3 d4
            have hdp := depthL_mem lt (lt[i]'hia) (List.getElem_mem hia)
            have hok := okL_mem lt (lt[i]'hia) (List.getElem_mem hia) HOK.out
            have HSD := Lib.hid (sizeL_drop lt i hia)
            have HMD : Hid (metL k n i (lt.drop i) = metT (lt[i]'hia) ++ metL k n (i + 1) (lt.drop (i + 1))) := Lib.hid (by rw [List.drop_eq_getElem_cons hia, metL, if_neg (by rw [← HFRO.out]; omega)])
            obtain ⟨tr, hu⟩ : ∃ tr, tr = lt[i]'hia := ⟨_, rfl⟩
            rw [← hu] at d0 d1 d2 d3 d4 hIn hdp hok HSD HMD
            clear hu
            have HC := Lib.hid (ih tr A' c' acc A2 c2 wr (by omega) hok HNN.out (by have h1 := HSZ.out; rw [HSD.out] at h1; omega) hIn HAC.out)
            rw [← HMA.out] at HC
            have HQ2 : Hid (onceN (onceN acc (metT tr)) (metL k n (i + 1) (lt.drop (i + 1))) = onceN l (metT (.node k s n a lt))) := Lib.hid (by rw [← onceN_app, ← HMD.out]; exact HQ.out)
            have HN2 : Hid (onceN acc (metT tr) ≠ []) := Lib.hid (by
              have h1 := (onceN_len acc (metT tr)).1
              have h2 := HNN.out
              intro e
              rw [e] at h1
              exact h2 (List.eq_nil_of_length_eq_zero (by simpa using h1)))
            have HS2 : Hid ((onceN acc (metT tr)).length + sizeL (lt.drop (i + 1)) ≤ 10000) := Lib.hid (by
              have h1 := (onceN_len acc (metT tr)).2
              have h2 := metT_len tr
              have h3 := HSZ.out
              rw [HSD.out] at h3
              omega)
            obtain ⟨acc2, hac2⟩ : ∃ acc2, acc2 = onceN acc (metT tr) := ⟨_, rfl⟩
            rw [← hac2] at HC HQ2 HN2 HS2
            obtain ⟨tk, ts, tn, ta, tl⟩ := tr
            simp only [tv, Tr.kind, Tr.name, Tr.n, Tr.place, Tr.parts] at d0 d1 d2 d3 d4 HC
            clear hac2 hIn hok hdp HQ HMD HSD HSZ HMA HNN HAC
            go_wp2_with fail
            refine HC.out.mono ?_
            rintro e w3 ⟨A3, c3, rfl, hA3, hb3⟩
            have hL3 := hLr.below hb3 hLr.lt
            have hbw3 := hbr.trans (hb3.mono hbs)
            have HA3 := Lib.hid hA3
            obtain ⟨m3, hm3⟩ : ∃ m3, m3 = acc2.length := ⟨_, rfl⟩
            rw [← hm3]
            have HM3 := Lib.hid hm3
            clear hA3 hb3 hLr hbr hbs HC c4 d0 d1 d2 d3 d4 hm3
            go_wp2_with fail
            go_roundw
            case rel => exact ⟨i + 1, acc2, A3, m3, c3, by omega, by go_num, rfl, HM3, HS2, HQ2, HN2, by omega, HA3, hL3, hbw3⟩
            case measure => simp [intOf]; omega
          · go_wp2_with fail
            go_ret
            have h1 := HQ.out
            rw [List.drop_of_length_le (by omega), metL] at h1
            have h2 : acc = onceN l (metT (.node k s n a lt)) := h1
            exact ⟨A2, c2, by rw [← h2, ← HMA.out]; rfl, by rw [← h2]; exact HAC.out, hbr⟩
      · have hd2 : decide (q < 0) = false := decide_eq_false hof
        have HQ9 : Hid (onceN l (metL k n (fromN k n) (lt.drop (fromN k n))) = onceN l (metT (.node k s n a lt))) := Lib.hid (by
          rw [← HFR.out, HMT.out, onceN_app, if_pos hO, onceN, if_neg (by rw [← hq]; exact hof)]; rfl)
        clear hq
        go_enter Tryz.func34, Tryz.ntmps34
        go_wp2_with fail
        refine (HOWN.out _ hb0).mono ?_
        rintro e w1 ⟨rfl, hb1⟩
        have hb2 := hb0.trans (hb1.mono hb0.size)
        have hL2 := hL.below hb1 hL.lt
        obtain ⟨⟨x0, x1, x2, x3, x4⟩, _⟩ := hL2.five
        have HOC := Lib.hid (HOFC.out w1 (HAL0.out _ hb2))
        go_wp2_with fail
        refine HOC.out.mono ?_
        rintro e V ⟨rfl, hbV⟩
        replace hL2 := hL2.below hbV hL2.lt
        replace hb2 := hb2.trans (hbV.mono hb2.size)
        have HA9 := Lib.hid (HAL0.out _ hb2)
        clear hb1 hbV HOC HOFC x0 x1 x2 x3 x4
        have HF := Lib.hid (from5_any k n a s A m c V hn8)
        obtain ⟨⟨y0, y1, y2, y3, y4⟩, _⟩ := hL2.five
        go_wp2_with fail
        refine HF.out.mono ?_
        rintro e w8 ⟨rfl, hb8⟩
        have hbw := hb2.trans (hb8.mono hb2.size)
        have hLw := hL2.below hb8 hL2.lt
        have HA8 := Lib.hid (AIn.below (HA9.out) hb8 (Nat.le_refl _))
        obtain ⟨fr, hfr⟩ : ∃ fr, fr = fromN k n := ⟨_, rfl⟩
        have HQ8 : Hid (onceN (l) (metL k n fr (lt.drop fr)) = onceN l (metT (.node k s n a lt))) := by rw [hfr]; exact HQ9
        have hfm : fr ≤ m := by rw [hfr]; exact HFM.out
        have HFRO := Lib.hid hfr
        have HS8 : Hid ((l).length + sizeL (lt.drop fr) ≤ 10000) := Lib.hid (by
          have h1 := HML.out
          have h2 : sizeL (lt.drop fr) ≤ sizeL lt := sizeL_drop_le lt fr
          omega)
        rw [← hfr]
        clear hfr hb8 hL2 HF hb2 HA9 HQ9 y0 y1 y2 y3 y4
        go_wp2_with fail
        go_loopw [1, 5] (fun v x wr => ∃ (i : Nat) (acc : List (ByteArray × Int)) (A2 : Option Addr) (ma c2 : Nat), i ≤ m ∧ x = .int .i64 i ∧ v = .slice A2 ma c2 ∧ Hid (ma = acc.length) ∧ Hid (acc.length + sizeL (lt.drop i) ≤ 10000) ∧ Hid (onceN acc (metL k n i (lt.drop i)) = onceN l (metT (.node k s n a lt))) ∧ Hid (acc ≠ []) ∧ fr ≤ i ∧ Hid (AIn wr Any acc A2) ∧ Lies wr w.heap.size 24 #[.int .i64 k, .string s, .int .i64 n, .int .i64 a, .slice A m c] ∧ Below w.heap.size w wr) (fun _ x _ => m - (intOf x).toNat)
        case atStart => exact ⟨fr, l, (some ⟨gl, ol, none⟩), ml, cl, hfm, rfl, rfl, HML, HS8, HQ8, Lib.hid (by have h1 := HML.out; intro e; rw [e] at h1; have := HNE.out; simp at h1 <;> omega), Nat.le_refl _, HA8, hLw, hbw⟩
        case round =>
          clear hLw hbw HA8 HQ8 HS8
          obtain ⟨i, acc, A2, ma, c2, hi, rfl, rfl, HMA, HSZ, HQ, HNN, hfi, HAC, hLr, hbr⟩ := hrel
          have hbs := hbr.size
          have c4 := hLr.five.1.2.2.2.2
          by_cases hlt : i < m
          · have hia : i < lt.length := by omega
            obtain ⟨g, o, A', c', ⟨hA, _⟩, d0, d1, d2, d3, d4, hIn⟩ := LIn.at_ lt (LIn.keep lt HI.out fun g j _ h => ⟨hbr.cell (p := ⟨g, j, none⟩) h, trivial⟩) i hia
            subst hA
            simp only [Nat.zero_add] at d0 d1 d2 d3 d4
            have hdp := depthL_mem lt (lt[i]'hia) (List.getElem_mem hia)
            have hok := okL_mem lt (lt[i]'hia) (List.getElem_mem hia) HOK.out
            have HSD := Lib.hid (sizeL_drop lt i hia)
            have HMD : Hid (metL k n i (lt.drop i) = metT (lt[i]'hia) ++ metL k n (i + 1) (lt.drop (i + 1))) := Lib.hid (by rw [List.drop_eq_getElem_cons hia, metL, if_neg (by rw [← HFRO.out]; omega)])
            obtain ⟨tr, hu⟩ : ∃ tr, tr = lt[i]'hia := ⟨_, rfl⟩
            rw [← hu] at d0 d1 d2 d3 d4 hIn hdp hok HSD HMD
            clear hu
            have HC := Lib.hid (ih tr A' c' acc A2 c2 wr (by omega) hok HNN.out (by have h1 := HSZ.out; rw [HSD.out] at h1; omega) hIn HAC.out)
            rw [← HMA.out] at HC
            have HQ2 : Hid (onceN (onceN acc (metT tr)) (metL k n (i + 1) (lt.drop (i + 1))) = onceN l (metT (.node k s n a lt))) := Lib.hid (by rw [← onceN_app, ← HMD.out]; exact HQ.out)
            have HN2 : Hid (onceN acc (metT tr) ≠ []) := Lib.hid (by
              have h1 := (onceN_len acc (metT tr)).1
              have h2 := HNN.out
              intro e
              rw [e] at h1
              exact h2 (List.eq_nil_of_length_eq_zero (by simpa using h1)))
            have HS2 : Hid ((onceN acc (metT tr)).length + sizeL (lt.drop (i + 1)) ≤ 10000) := Lib.hid (by
              have h1 := (onceN_len acc (metT tr)).2
              have h2 := metT_len tr
              have h3 := HSZ.out
              rw [HSD.out] at h3
              omega)
            obtain ⟨acc2, hac2⟩ : ∃ acc2, acc2 = onceN acc (metT tr) := ⟨_, rfl⟩
            rw [← hac2] at HC HQ2 HN2 HS2
            obtain ⟨tk, ts, tn, ta, tl⟩ := tr
            simp only [tv, Tr.kind, Tr.name, Tr.n, Tr.place, Tr.parts] at d0 d1 d2 d3 d4 HC
            clear hac2 hIn hok hdp HQ HMD HSD HSZ HMA HNN HAC
            go_wp2_with fail
            refine HC.out.mono ?_
            rintro e w3 ⟨A3, c3, rfl, hA3, hb3⟩
            have hL3 := hLr.below hb3 hLr.lt
            have hbw3 := hbr.trans (hb3.mono hbs)
            have HA3 := Lib.hid hA3
            obtain ⟨m3, hm3⟩ : ∃ m3, m3 = acc2.length := ⟨_, rfl⟩
            rw [← hm3]
            have HM3 := Lib.hid hm3
            clear hA3 hb3 hLr hbr hbs HC c4 d0 d1 d2 d3 d4 hm3
            go_wp2_with fail
            go_roundw
            case rel => exact ⟨i + 1, acc2, A3, m3, c3, by omega, by go_num, rfl, HM3, HS2, HQ2, HN2, by omega, HA3, hL3, hbw3⟩
            case measure => simp [intOf]; omega
          · go_wp2_with fail
            go_ret
            have h1 := HQ.out
            rw [List.drop_of_length_le (by omega), metL] at h1
            have h2 : acc = onceN l (metT (.node k s n a lt)) := h1
            exact ⟨A2, c2, by rw [← h2, ← HMA.out]; rfl, by rw [← h2]; exact HAC.out, hbr⟩
    · have hd : decide (0 ≤ O) = false := decide_eq_false hO
      have HQ9 : Hid (onceN l (metL k n (fromN k n) (lt.drop (fromN k n))) = onceN l (metT (.node k s n a lt))) := Lib.hid (by
        rw [← HFR.out, HMT.out, onceN_app, if_neg hO]; rfl)
      go_enter Tryz.func34, Tryz.ntmps34
      go_wp2_with fail
      refine (HOWN.out _ hb0).mono ?_
      rintro e w1 ⟨rfl, hb1⟩
      have hb2 := hb0.trans (hb1.mono hb0.size)
      have hL2 := hL.below hb1 hL.lt
      have HA9 := Lib.hid (HAL0.out _ hb2)
      clear hb1
      have HF := Lib.hid (from5_any k n a s A m c w1 hn8)
      obtain ⟨⟨y0, y1, y2, y3, y4⟩, _⟩ := hL2.five
      go_wp2_with fail
      refine HF.out.mono ?_
      rintro e w8 ⟨rfl, hb8⟩
      have hbw := hb2.trans (hb8.mono hb2.size)
      have hLw := hL2.below hb8 hL2.lt
      have HA8 := Lib.hid (AIn.below (HA9.out) hb8 (Nat.le_refl _))
      obtain ⟨fr, hfr⟩ : ∃ fr, fr = fromN k n := ⟨_, rfl⟩
      have HQ8 : Hid (onceN (l) (metL k n fr (lt.drop fr)) = onceN l (metT (.node k s n a lt))) := by rw [hfr]; exact HQ9
      have hfm : fr ≤ m := by rw [hfr]; exact HFM.out
      have HFRO := Lib.hid hfr
      have HS8 : Hid ((l).length + sizeL (lt.drop fr) ≤ 10000) := Lib.hid (by
        have h1 := HML.out
        have h2 : sizeL (lt.drop fr) ≤ sizeL lt := sizeL_drop_le lt fr
        omega)
      rw [← hfr]
      clear hfr hb8 hL2 HF hb2 HA9 HQ9 y0 y1 y2 y3 y4
      go_wp2_with fail
      go_loopw [1, 5] (fun v x wr => ∃ (i : Nat) (acc : List (ByteArray × Int)) (A2 : Option Addr) (ma c2 : Nat), i ≤ m ∧ x = .int .i64 i ∧ v = .slice A2 ma c2 ∧ Hid (ma = acc.length) ∧ Hid (acc.length + sizeL (lt.drop i) ≤ 10000) ∧ Hid (onceN acc (metL k n i (lt.drop i)) = onceN l (metT (.node k s n a lt))) ∧ Hid (acc ≠ []) ∧ fr ≤ i ∧ Hid (AIn wr Any acc A2) ∧ Lies wr w.heap.size 24 #[.int .i64 k, .string s, .int .i64 n, .int .i64 a, .slice A m c] ∧ Below w.heap.size w wr) (fun _ x _ => m - (intOf x).toNat)
      case atStart => exact ⟨fr, l, (some ⟨gl, ol, none⟩), ml, cl, hfm, rfl, rfl, HML, HS8, HQ8, Lib.hid (by have h1 := HML.out; intro e; rw [e] at h1; have := HNE.out; simp at h1 <;> omega), Nat.le_refl _, HA8, hLw, hbw⟩
      case round =>
        clear hLw hbw HA8 HQ8 HS8
        obtain ⟨i, acc, A2, ma, c2, hi, rfl, rfl, HMA, HSZ, HQ, HNN, hfi, HAC, hLr, hbr⟩ := hrel
        have hbs := hbr.size
        have c4 := hLr.five.1.2.2.2.2
        by_cases hlt : i < m
        · have hia : i < lt.length := by omega
          obtain ⟨g, o, A', c', ⟨hA, _⟩, d0, d1, d2, d3, d4, hIn⟩ := LIn.at_ lt (LIn.keep lt HI.out fun g j _ h => ⟨hbr.cell (p := ⟨g, j, none⟩) h, trivial⟩) i hia
          subst hA
          simp only [Nat.zero_add] at d0 d1 d2 d3 d4
          have hdp := depthL_mem lt (lt[i]'hia) (List.getElem_mem hia)
          have hok := okL_mem lt (lt[i]'hia) (List.getElem_mem hia) HOK.out
          have HSD := Lib.hid (sizeL_drop lt i hia)
          have HMD : Hid (metL k n i (lt.drop i) = metT (lt[i]'hia) ++ metL k n (i + 1) (lt.drop (i + 1))) := Lib.hid (by rw [List.drop_eq_getElem_cons hia, metL, if_neg (by rw [← HFRO.out]; omega)])
          obtain ⟨tr, hu⟩ : ∃ tr, tr = lt[i]'hia := ⟨_, rfl⟩
          rw [← hu] at d0 d1 d2 d3 d4 hIn hdp hok HSD HMD
          clear hu
          have HC := Lib.hid (ih tr A' c' acc A2 c2 wr (by omega) hok HNN.out (by have h1 := HSZ.out; rw [HSD.out] at h1; omega) hIn HAC.out)
          rw [← HMA.out] at HC
          have HQ2 : Hid (onceN (onceN acc (metT tr)) (metL k n (i + 1) (lt.drop (i + 1))) = onceN l (metT (.node k s n a lt))) := Lib.hid (by rw [← onceN_app, ← HMD.out]; exact HQ.out)
          have HN2 : Hid (onceN acc (metT tr) ≠ []) := Lib.hid (by
            have h1 := (onceN_len acc (metT tr)).1
            have h2 := HNN.out
            intro e
            rw [e] at h1
            exact h2 (List.eq_nil_of_length_eq_zero (by simpa using h1)))
          have HS2 : Hid ((onceN acc (metT tr)).length + sizeL (lt.drop (i + 1)) ≤ 10000) := Lib.hid (by
            have h1 := (onceN_len acc (metT tr)).2
            have h2 := metT_len tr
            have h3 := HSZ.out
            rw [HSD.out] at h3
            omega)
          obtain ⟨acc2, hac2⟩ : ∃ acc2, acc2 = onceN acc (metT tr) := ⟨_, rfl⟩
          rw [← hac2] at HC HQ2 HN2 HS2
          obtain ⟨tk, ts, tn, ta, tl⟩ := tr
          simp only [tv, Tr.kind, Tr.name, Tr.n, Tr.place, Tr.parts] at d0 d1 d2 d3 d4 HC
          clear hac2 hIn hok hdp HQ HMD HSD HSZ HMA HNN HAC
          go_wp2_with fail
          refine HC.out.mono ?_
          rintro e w3 ⟨A3, c3, rfl, hA3, hb3⟩
          have hL3 := hLr.below hb3 hLr.lt
          have hbw3 := hbr.trans (hb3.mono hbs)
          have HA3 := Lib.hid hA3
          obtain ⟨m3, hm3⟩ : ∃ m3, m3 = acc2.length := ⟨_, rfl⟩
          rw [← hm3]
          have HM3 := Lib.hid hm3
          clear hA3 hb3 hLr hbr hbs HC c4 d0 d1 d2 d3 d4 hm3
          go_wp2_with fail
          go_roundw
          case rel => exact ⟨i + 1, acc2, A3, m3, c3, by omega, by go_num, rfl, HM3, HS2, HQ2, HN2, by omega, HA3, hL3, hbw3⟩
          case measure => simp [intOf]; omega
        · go_wp2_with fail
          go_ret
          have h1 := HQ.out
          rw [List.drop_of_length_le (by omega), metL] at h1
          have h2 : acc = onceN l (metT (.node k s n a lt)) := h1
          exact ⟨A2, c2, by rw [← h2, ← HMA.out]; rfl, by rw [← h2]; exact HAC.out, hbr⟩
end Lx
end Go.Proofs.YtobdoahdjbmflaaGreatDoor
