/-
  Texts that lie one behind the other: NlL Ru RuA RuB RuC.
-/
import Derived.Test.YtlamjjkcbadibaaC1
import Derived.Deep.RegionWith
namespace Go.Proofs.Ytlamjjkcbadibaa
open Go.RowKit
namespace Lx
set_option maxRecDepth 100000
set_option maxHeartbeats 8000000 in
theorem one_any (x : Nd) (B C B' C' : Option Addr) (b c b' c' : Nat) (w : World) (hI : NdIn w AnyB x B C) (hJ : NdIn w AnyB x B' C') : Calls Try.prog 24 #[ndv x B b C c, ndv x B' b' C' c'] w fun e w' => e = .returned (.bool true) ∧ Below w.heap.size w w' := by
  obtain ⟨k, lv, n, s, al, tp⟩ := x
  obtain ⟨⟨_, hal, htl⟩, hA, hT⟩ := hI
  obtain ⟨_, hA', hT'⟩ := hJ
  simp only at hal htl hA hT hA' hT'
  obtain ⟨w1, hw1⟩ : ∃ w1, w1 = ((w.alloc (.cells #[.int .i64 k, .int .i64 lv, .int .i64 n, .string s, .slice B al.length (capN al.length b), .slice C tp.length (capN tp.length c)] 25)).alloc (.cells #[.int .i64 k, .int .i64 lv, .int .i64 n, .string s, .slice B' al.length (capN al.length b'), .slice C' tp.length (capN tp.length c')] 25)) := ⟨_, rfl⟩
  have hb : Below w.heap.size w w1 := by rw [hw1]; exact ((Below.refl _ w).alloc (Nat.le_refl _) _).alloc (by simp) _
  have L : Lies w1 w.heap.size 25 #[.int .i64 k, .int .i64 lv, .int .i64 n, .string s, .slice B al.length (capN al.length b), .slice C tp.length (capN tp.length c)] := by rw [hw1]; exact (Lies.new _ _ _).old _
  have L' : Lies w1 (w.heap.size + 1) 25 #[.int .i64 k, .int .i64 lv, .int .i64 n, .string s, .slice B' al.length (capN al.length b'), .slice C' tp.length (capN tp.length c')] := by rw [hw1]; simpa using Lies.new (w.alloc (.cells #[.int .i64 k, .int .i64 lv, .int .i64 n, .string s, .slice B al.length (capN al.length b), .slice C tp.length (capN tp.length c)] 25)) 25 #[.int .i64 k, .int .i64 lv, .int .i64 n, .string s, .slice B' al.length (capN al.length b'), .slice C' tp.length (capN tp.length c')]
  obtain ⟨ma, hma⟩ : ∃ ma, ma = al.length := ⟨_, rfl⟩
  obtain ⟨mt, hmt⟩ : ∃ mt, mt = tp.length := ⟨_, rfl⟩
  unfold ndv
  simp only
  rw [← hma, ← hmt] at L L' hw1 ⊢
  rw [← hma] at hal
  rw [← hmt] at htl
  obtain ⟨x0, x1, x2, x3, x4, x5⟩ := six_cells L
  obtain ⟨y0, y1, y2, y3, y4, y5⟩ := six_cells L'
  have HA := Lib.hid (hA.below hb (Nat.le_refl _))
  have HA' := Lib.hid (hA'.below hb (Nat.le_refl _))
  have HT := Lib.hid (hT.below hb (Nat.le_refl _))
  have HT' := Lib.hid (hT'.below hb (Nat.le_refl _))
  have HMA := Lib.hid hma
  have HMT := Lib.hid hmt
  clear hA hA' hT hT' hma hmt
  go_enter Try.func24, Try.ntmps24
  go_upto_region 1 with fail
  rw [← hw1]
  clear hw1 L L'
  have hx4 := ncell_lt x4
  have hy4 := ncell_lt y4
  go_upto_region 3 with fail
  clear x0 x1 x2 x3 y0 y1 y2 y3
  go_wp2_with fail
  go_loopw [5] (fun y wr => ∃ i : Nat, i ≤ ma ∧ y = .int .i64 i ∧ Below w1.heap.size w1 wr) (fun y _ => ma - (intOf y).toNat)
  case atStart => exact ⟨0, Nat.zero_le _, rfl, Below.refl _ _⟩
  case round =>
    obtain ⟨i, hi, rfl, hbr⟩ := hrel
    have u4 := (hbr.cell (p := ⟨w.heap.size, 4, none⟩) hx4).trans x4
    have v4 := (hbr.cell (p := ⟨w.heap.size + 1, 4, none⟩) hy4).trans y4
    by_cases hlt : i < ma
    · have hil : i < al.length := by have := HMA.out; omega
      obtain ⟨g, o, ⟨rfl, _⟩, d0, d1, _⟩ := HA.out i hil
      obtain ⟨g', o', ⟨rfl, _⟩, d0', d1', _⟩ := HA'.out i hil
      replace d0 := (hbr.cell (p := ⟨g, o + i * 2, none⟩) (ncell_lt d0)).trans d0
      replace d1 := (hbr.cell (p := ⟨g, o + i * 2 + 1, none⟩) (ncell_lt d1)).trans d1
      replace d0' := (hbr.cell (p := ⟨g', o' + i * 2, none⟩) (ncell_lt d0')).trans d0'
      replace d1' := (hbr.cell (p := ⟨g', o' + i * 2 + 1, none⟩) (ncell_lt d1')).trans d1'
      obtain ⟨an, han⟩ : ∃ an, an = (al[i]'hil).1 := ⟨_, rfl⟩
      obtain ⟨aN, haN⟩ : ∃ aN, aN = (al[i]'hil).2 := ⟨_, rfl⟩
      rw [← han] at d0 d0'
      rw [← haN] at d1 d1'
      clear han haN
      have z0 := Abv.cell d0
      have z1 := Abv.cell d1
      have z0' := Abv.cell d0'
      have z1' := Abv.cell d1'
      have z4 := Abv.cell u4
      have z4' := Abv.cell v4
      go_upto_region 6 with fail
      refine region_calm (by kernel_rfl) (by kernel_rfl) ?_
      repeat (go_big_quiet_step (fail))
      refine wpQuiet_nil ?_
      rintro _ ⟨V, rfl⟩
      go_wp2_with fail
      go_roundw
      case rel =>
        go_light
        exact ⟨i + 1, by omega, by go_num, hbr.trans (V.2.mono hbr.size)⟩
      case measure => simp [intOf]; omega
    · have hx5 := ncell_lt x5
      have hy5 := ncell_lt y5
      obtain ⟨w2, hw2⟩ : ∃ w2, w2 = wr := ⟨_, rfl⟩
      have r5 := (hbr.cell (p := ⟨w.heap.size, 5, none⟩) hx5).trans x5
      have s5 := (hbr.cell (p := ⟨w.heap.size + 1, 5, none⟩) hy5).trans y5
      rw [← hw2] at hbr u4 v4 r5 s5 ⊢
      clear hw2
      have hr5 := ncell_lt r5
      have hs5 := ncell_lt s5
      go_wp2_with fail
      go_loopw [6] (fun y wr => ∃ i : Nat, i ≤ mt ∧ y = .int .i64 i ∧ Below w2.heap.size w2 wr) (fun y _ => mt - (intOf y).toNat)
      case atStart => exact ⟨0, Nat.zero_le _, rfl, Below.refl _ _⟩
      case round =>
        obtain ⟨j, hj, rfl, hb2⟩ := hrel
        have p5 := (hb2.cell (p := ⟨w.heap.size, 5, none⟩) hr5).trans r5
        have q5 := (hb2.cell (p := ⟨w.heap.size + 1, 5, none⟩) hs5).trans s5
        have hbt := hbr.trans (hb2.mono hbr.size)
        by_cases hlt2 : j < mt
        · have hjl : j < tp.length := by have := HMT.out; omega
          obtain ⟨g, o, ⟨rfl, _⟩, d0, d1⟩ := HT.out j hjl
          obtain ⟨g', o', ⟨rfl, _⟩, d0', d1'⟩ := HT'.out j hjl
          replace d0 := (hbt.cell (p := ⟨g, o + j * 2, none⟩) (ncell_lt d0)).trans d0
          replace d1 := (hbt.cell (p := ⟨g, o + j * 2 + 1, none⟩) (ncell_lt d1)).trans d1
          replace d0' := (hbt.cell (p := ⟨g', o' + j * 2, none⟩) (ncell_lt d0')).trans d0'
          replace d1' := (hbt.cell (p := ⟨g', o' + j * 2 + 1, none⟩) (ncell_lt d1')).trans d1'
          obtain ⟨an, han⟩ : ∃ an, an = (tp[j]'hjl).1 := ⟨_, rfl⟩
          obtain ⟨aN, haN⟩ : ∃ aN, aN = (tp[j]'hjl).2 := ⟨_, rfl⟩
          rw [← han] at d0 d0'
          rw [← haN] at d1 d1'
          clear han haN
          have z0 := Abv.cell d0
          have z1 := Abv.cell d1
          have z0' := Abv.cell d0'
          have z1' := Abv.cell d1'
          have z5 := Abv.cell p5
          have z5' := Abv.cell q5
          go_upto_region 11 with fail
          refine region_calm (by kernel_rfl) (by kernel_rfl) ?_
          repeat (go_big_quiet_step (fail))
          refine wpQuiet_nil ?_
          rintro _ ⟨V, rfl⟩
          go_wp2_with fail
          go_roundw
          case rel =>
            go_light
            exact ⟨j + 1, by omega, by go_num, hb2.trans (V.2.mono hb2.size)⟩
          case measure => simp [intOf]; omega
        · go_wp2_with fail
          go_ret
          exact ⟨rfl, hb.trans (hbt.mono hb.size)⟩
end Lx
end Go.Proofs.Ytlamjjkcbadibaa
namespace Go.Proofs.Ytlamjjkcbadibaa
namespace Lx
set_option maxRecDepth 100000
def wrapR (a : Int) : Int := (a + 9223372036854775808) % 18446744073709551616 - 9223372036854775808
theorem wrapR_in (a : Int) : -9223372036854775808 ≤ wrapR a ∧ wrapR a ≤ 9223372036854775807 := by unfold wrapR; omega
theorem wrapR_of {a : Int} (h : -9223372036854775808 ≤ a ∧ a ≤ 9223372036854775807) : wrapR a = a := by unfold wrapR; omega
structure Pl where
  kind : Int
  swap : Bool
  level : Int
  alt : Int
  node : Nd
def Pl.zero : Pl := ⟨0, false, 0, 0, Nd.zero⟩
def Pl.one (k : Int) : Pl := ⟨k, false, 0, 0, Nd.zero⟩
/-- What the kind of a node is: it does nothing, it drops, a control, it asks, it is told. -/
def roleV (k : Int) : Int := if k = 7 then 1 else if k = 4 ∨ k = 5 ∨ k = 6 then 2 else if k = 3 ∨ k = 9 ∨ k = 11 ∨ k = 12 then 3 else if k = 2 ∨ k = 8 ∨ k = 10 ∨ k = 13 then 4 else 0
theorem role_cases (k : Int) : roleV k = 0 ∨ roleV k = 1 ∨ roleV k = 2 ∨ roleV k = 3 ∨ roleV k = 4 := by
  unfold roleV
  repeat' split
  all_goals omega
def riseV (k : Int) : Int := if k = 5 then -1 else if k = 6 then 1 else 0
theorem rise_cases (k : Int) : riseV k = -1 ∨ riseV k = 1 ∨ riseV k = 0 := by
  unfold riseV
  repeat' split
  all_goals omega
def branchV (k : Int) : Int := if k = 4 then 2 else 1
def othersV (x : Nd) : Int := max ((x.to.length : Int) - 1) 0
/-- Is the first one of two named first? -/
def aheadV (x y : Nd) : Bool := if roleV x.kind = 2 ∧ roleV y.kind = 2 then decide (x.level < y.level) else decide (roleV x.kind < roleV y.kind)
def truthS (b : Bool) : ByteArray := if b then ⟨#[84, 114, 117, 101]⟩ else ⟨#[70, 97, 108, 115, 101]⟩
/-- What an operator tells of two numbers: a number, a name, does it tell at all. -/
def recV (s : ByteArray) (a b : Int) : Int × ByteArray × Bool :=
  if s = ⟨#[43]⟩ then (wrapR (a + b), ⟨#[]⟩, true) else if s = ⟨#[45]⟩ then (wrapR (a - b), ⟨#[]⟩, true) else if s = ⟨#[42]⟩ then (wrapR (a * b), ⟨#[]⟩, true)
  else if s = ⟨#[47]⟩ then (if b = 0 then (0, ⟨#[]⟩, false) else (wrapR (a.tdiv b), ⟨#[]⟩, true))
  else if s = ⟨#[60]⟩ then (0, truthS (decide (a < b)), true) else if s = ⟨#[61, 61]⟩ then (0, truthS (decide (a = b)), true) else (0, ⟨#[]⟩, true)
def outV (x y : Nd) : Pl :=
  if (recV x.name x.n y.n).2.2 = true then
    ⟨4, false, 0, 0, ⟨if (recV x.name x.n y.n).2.1 = ⟨#[]⟩ then 10 else 8, x.level, (recV x.name x.n y.n).1, (recV x.name x.n y.n).2.1, [], [(0, 0)]⟩⟩
  else Pl.one 5
/-- Where the alternative stands that is meant. -/
def altAt (s : ByteArray) (p : Int) : List (ByteArray × Int) → Option Nat
  | [] => none
  | a :: r => if a.1 = s ∧ a.2 = p then some 0 else (altAt s p r).map (· + 1)
def pickV (x y : Nd) : Pl := match altAt y.name ((y.to.length : Int) - 1) x.alts with
  | some i => ⟨2, false, 0, i, Nd.zero⟩
  | none => Pl.one 5
def answerV (x y : Nd) : Pl × Int :=
  if (x.kind = 3 ∧ y.kind = 2 ∨ x.kind = 9 ∧ y.kind = 8) ∧ x.level ≠ y.level then (Pl.zero, 140)
  else if x.kind = 3 ∧ y.kind = 2 then (Pl.one 1, 0)
  else if x.kind = 9 ∧ y.kind = 8 then (pickV x y, 0)
  else if x.kind = 11 ∧ y.kind = 10 then (Pl.one 3, 0)
  else if x.kind = 12 ∧ y.kind = 10 then (outV x y, 0)
  else (Pl.one 5, 0)
def passV (x y : Nd) : Pl × Int := if y.level > 60 - riseV x.kind then (Pl.zero, 141) else (⟨7, false, wrapR (y.level + riseV x.kind), 0, Nd.zero⟩, 0)
def planV (x y : Nd) : Pl × Int :=
  if roleV x.kind = 1 then (Pl.one 8, 0) else if roleV x.kind = 2 ∧ x.level < y.level then passV x y
  else if roleV x.kind = 2 ∧ x.level = y.level ∧ x.kind = y.kind then (Pl.one 6, 0)
  else if roleV x.kind = 3 ∧ roleV y.kind = 4 then answerV x y else (Pl.zero, 140)
def xOf (s : Bool) (a b : Nd) : Nd := if s then b else a
def ofN (a b : Nd) : Pl × Int :=
  let s := aheadV b a
  let r := planV (xOf s a b) (xOf s b a)
  ({ r.1 with swap := s && decide (r.2 = 0) }, r.2)
def needPick (l : List (ByteArray × Int)) (i : Int) : Int := if i < 0 ∨ (l.length : Int) ≤ i then 0 else wrapR (wrapR ((l.getD i.toNat (⟨#[]⟩, 0)).2 + l.length) - 1)
def needV (p : Pl) (a b : Nd) : Int :=
  let x := xOf p.swap a b
  let y := xOf p.swap b a
  if p.kind = 2 then needPick x.alts p.alt else if p.kind = 3 ∨ p.kind = 4 then 1 else if p.kind = 5 then 1 + max (othersV x - 1) 0 + othersV y
  else if p.kind = 7 then branchV x.kind + othersV y else if p.kind = 8 then othersV y else 0
/-! Only one can be the first one. -/
theorem ahead_not {x y : Nd} (h : aheadV x y = true) : aheadV y x = false := by
  unfold aheadV at *
  by_cases h2 : roleV x.kind = 2 ∧ roleV y.kind = 2
  · rw [if_pos h2] at h
    rw [if_pos h2.symm]
    simp at h ⊢
    omega
  · rw [if_neg h2] at h
    rw [if_neg (fun e => h2 e.symm)]
    simp at h ⊢
    omega
theorem plan_swap (x y : Nd) : (planV x y).1.swap = false := by
  unfold planV passV answerV pickV outV Pl.one Pl.zero
  repeat' split
  all_goals rfl
theorem plan_bad {x y : Nd} (h : (planV x y).2 ≠ 0) : (planV x y).1 = Pl.zero := by
  revert h
  unfold planV passV answerV
  repeat' split
  all_goals simp
/-- Neither can be the first one. -/
theorem plan_even {a b : Nd} (h : aheadV a b = false) (h' : aheadV b a = false) :
    (roleV a.kind = 1 ∧ roleV b.kind = 1 ∧ planV a b = (Pl.one 8, 0)) ∨ (roleV a.kind = 2 ∧ roleV b.kind = 2 ∧ a.level = b.level ∧ a.kind = b.kind ∧ planV a b = (Pl.one 6, 0)) ∨ (planV a b = (Pl.zero, 140) ∧ roleV a.kind ≠ 1) := by
  unfold aheadV at h h'
  by_cases h2 : roleV a.kind = 2 ∧ roleV b.kind = 2
  · rw [if_pos h2] at h
    rw [if_pos h2.symm] at h'
    simp at h h'
    have hl : a.level = b.level := by omega
    by_cases hk : a.kind = b.kind
    · refine .inr (.inl ⟨h2.1, h2.2, hl, hk, ?_⟩)
      unfold planV
      rw [if_neg (by omega), if_neg (by omega), if_pos ⟨h2.1, hl, hk⟩]
    · refine .inr (.inr ⟨?_, by omega⟩)
      unfold planV
      rw [if_neg (by omega), if_neg (by omega), if_neg (fun e => hk e.2.2), if_neg (by omega)]
  · rw [if_neg h2] at h
    rw [if_neg (fun e => h2 e.symm)] at h'
    simp at h h'
    have he : roleV a.kind = roleV b.kind := by omega
    by_cases h1 : roleV a.kind = 1
    · refine .inl ⟨h1, by omega, ?_⟩
      unfold planV
      rw [if_pos h1]
    · refine .inr (.inr ⟨?_, h1⟩)
      unfold planV
      rw [if_neg h1, if_neg (by omega), if_neg (by omega), if_neg (by omega)]
theorem role_seven {k : Int} : roleV k = 1 ↔ k = 7 := by
  unfold roleV
  constructor
  · intro h
    repeat' split at h
    all_goals omega
  · rintro rfl; rfl
theorem role_control {k : Int} : roleV k = 2 ↔ k = 4 ∨ k = 5 ∨ k = 6 := by
  unfold roleV
  repeat' split
  all_goals omega
theorem role_asks {k : Int} : roleV k = 3 ↔ k = 3 ∨ k = 9 ∨ k = 11 ∨ k = 12 := by
  unfold roleV
  repeat' split
  all_goals omega
theorem role_told {k : Int} : roleV k = 4 ↔ k = 2 ∨ k = 8 ∨ k = 10 ∨ k = 13 := by
  unfold roleV
  repeat' split
  all_goals omega
theorem plan_kind7 {x y : Nd} (h : roleV x.kind ≠ 2) (h1 : roleV x.kind ≠ 1) : (planV x y).1.kind ≠ 6 ∧ (planV x y).1.kind ≠ 7 ∧ (planV x y).1.kind ≠ 8 := by
  unfold planV answerV pickV outV Pl.one Pl.zero
  rw [if_neg h1, if_neg (by omega), if_neg (by omega)]
  repeat' split
  all_goals simp
/-- What the stage's theorem says, plainly. -/
theorem turns_ok (a b : Nd) : (ofN a b).2 = (ofN b a).2 ∧ ((ofN a b).2 ≠ 0 → (ofN a b).1 = Pl.zero ∧ (ofN b a).1 = Pl.zero) ∧
    ((ofN a b).2 = 0 → ((ofN a b).1.kind = 6 ∨ (a.kind = 7 ∧ b.kind = 7)) → (ofN a b).1.swap = false ∧ (ofN b a).1.swap = false ∧ (ofN a b).1.kind = (ofN b a).1.kind ∧ ((ofN a b).1.kind ≠ 6 ∨ (a.kind = b.kind ∧ a.level = b.level))) ∧
    ((ofN a b).2 = 0 → ¬ ((ofN a b).1.kind = 6 ∨ (a.kind = 7 ∧ b.kind = 7)) → (ofN b a).1.swap = !(ofN a b).1.swap ∧ { (ofN b a).1 with swap := (ofN a b).1.swap } = (ofN a b).1 ∧ needV (ofN a b).1 a b = needV (ofN b a).1 b a) := by
  have hz : ∀ {p : Pl} {s : Bool}, p = Pl.zero → s = false → ({ p with swap := s } : Pl) = Pl.zero := by rintro p s rfl rfl; rfl
  cases hA : aheadV a b with
  | true =>
    have hB := ahead_not hA
    have e1 : ofN a b = ({ (planV a b).1 with swap := false }, (planV a b).2) := by simp only [ofN, hB, xOf]; rfl
    have e2 : ofN b a = ({ (planV a b).1 with swap := decide ((planV a b).2 = 0) }, (planV a b).2) := by simp only [ofN, hA, xOf]; rfl
    rw [e1, e2]
    refine ⟨rfl, fun h => ⟨hz (plan_bad h) rfl, hz (plan_bad h) (by simpa using h)⟩, fun h0 h => ?_, fun h0 h => ?_⟩
    · exfalso
      unfold aheadV at hA
      rcases h with h | ⟨h, h'⟩
      · replace h : (planV a b).1.kind = 6 := h
        by_cases h2 : roleV a.kind = 2
        · by_cases hb2 : roleV b.kind = 2
          · rw [if_pos ⟨h2, hb2⟩] at hA
            simp at hA
            unfold planV passV at h
            rw [if_neg (by omega), if_pos ⟨h2, hA⟩] at h
            split at h <;> simp [Pl.zero] at h
          · unfold planV passV at h
            rw [if_neg (by omega)] at h
            by_cases hl : a.level < b.level
            · rw [if_pos ⟨h2, hl⟩] at h
              split at h <;> simp [Pl.zero] at h
            · rw [if_neg (by omega)] at h
              by_cases hk : a.kind = b.kind
              · rw [hk] at h2; exact hb2 h2
              · rw [if_neg (fun e => hk e.2.2), if_neg (by omega)] at h
                simp [Pl.zero] at h
        · by_cases h1 : roleV a.kind = 1
          · unfold planV at h
            rw [if_pos h1] at h
            simp [Pl.one] at h
          · exact (plan_kind7 h2 h1).1 h
      · rw [h, h'] at hA
        simp [roleV] at hA
    · refine ⟨by simp [show (planV a b).2 = 0 from h0], rfl, ?_⟩
      simp only [needV, xOf, show (planV a b).2 = 0 from h0]
      rfl
  | false =>
    cases hB : aheadV b a with
    | true =>
      have e1 : ofN a b = ({ (planV b a).1 with swap := decide ((planV b a).2 = 0) }, (planV b a).2) := by simp only [ofN, hB, xOf]; rfl
      have e2 : ofN b a = ({ (planV b a).1 with swap := false }, (planV b a).2) := by simp only [ofN, hA, xOf]; rfl
      rw [e1, e2]
      refine ⟨rfl, fun h => ⟨hz (plan_bad h) (by simpa using h), hz (plan_bad h) rfl⟩, fun h0 h => ?_, fun h0 h => ?_⟩
      · exfalso
        unfold aheadV at hB
        rcases h with h | ⟨h, h'⟩
        · replace h : (planV b a).1.kind = 6 := h
          by_cases h2 : roleV b.kind = 2
          · by_cases hb2 : roleV a.kind = 2
            · rw [if_pos ⟨h2, hb2⟩] at hB
              simp at hB
              unfold planV passV at h
              rw [if_neg (by omega), if_pos ⟨h2, hB⟩] at h
              split at h <;> simp [Pl.zero] at h
            · unfold planV passV at h
              rw [if_neg (by omega)] at h
              by_cases hl : b.level < a.level
              · rw [if_pos ⟨h2, hl⟩] at h
                split at h <;> simp [Pl.zero] at h
              · rw [if_neg (by omega)] at h
                by_cases hk : b.kind = a.kind
                · rw [hk] at h2; exact hb2 h2
                · rw [if_neg (fun e => hk e.2.2), if_neg (by omega)] at h
                  simp [Pl.zero] at h
          · by_cases h1 : roleV b.kind = 1
            · unfold planV at h
              rw [if_pos h1] at h
              simp [Pl.one] at h
            · exact (plan_kind7 h2 h1).1 h
        · rw [h, h'] at hB
          simp [roleV] at hB
      · refine ⟨by simp [show (planV b a).2 = 0 from h0], rfl, ?_⟩
        simp only [needV, xOf, show (planV b a).2 = 0 from h0]
        rfl
    | false =>
      have e1 : ofN a b = ({ (planV a b).1 with swap := false }, (planV a b).2) := by simp only [ofN, hB, xOf]; rfl
      have e2 : ofN b a = ({ (planV b a).1 with swap := false }, (planV b a).2) := by simp only [ofN, hA, xOf]; rfl
      rw [e1, e2]
      rcases plan_even hA hB with ⟨h1, h2, h⟩ | ⟨h1, h2, hl, hk, h⟩ | ⟨h, h1⟩
      · have h' : planV b a = (Pl.one 8, 0) := by unfold planV; rw [if_pos h2]
        rw [h, h']
        rw [role_seven] at h1 h2
        exact ⟨rfl, fun e => absurd rfl e, fun _ _ => ⟨rfl, rfl, rfl, .inl (by simp [Pl.one])⟩, fun _ e => absurd (.inr ⟨h1, h2⟩) e⟩
      · rcases plan_even hB hA with ⟨h1', _⟩ | ⟨_, _, _, _, h'⟩ | ⟨h', _⟩
        · omega
        · rw [h, h']
          exact ⟨rfl, fun e => absurd rfl e, fun _ _ => ⟨rfl, rfl, rfl, .inr ⟨hk, hl⟩⟩, fun _ e => absurd (.inl rfl) e⟩
        · exfalso
          unfold planV at h'
          rw [if_neg (by omega), if_neg (by omega), if_pos ⟨h2, hl.symm, hk.symm⟩] at h'
          cases h'
      · rcases plan_even hB hA with ⟨h1', h2', h'⟩ | ⟨h1', h2', hl, hk, h'⟩ | ⟨h', _⟩
        · exact absurd h2' h1
        · exfalso
          unfold planV at h
          rw [if_neg (by omega), if_neg (by omega), if_pos ⟨h2', hl.symm, hk.symm⟩] at h
          cases h
        · rw [h, h']
          exact ⟨rfl, fun _ => ⟨rfl, rfl⟩, fun e => absurd e (by decide), fun e => absurd e (by decide)⟩
end Lx
end Go.Proofs.Ytlamjjkcbadibaa
namespace Go.Proofs.Ytlamjjkcbadibaa
open Go Go.RowKit
namespace Lx
set_option maxRecDepth 100000
set_option maxHeartbeats 8000000 in
theorem rurole_any (x : Nd) (B C : Option Addr) (b c : Nat) (w : World) : Calls Try.prog 30 #[ndv x B b C c] w fun e w' => e = .returned (.int .i64 (roleV x.kind)) ∧ Below w.heap.size w w' := by
  obtain ⟨k, lv, n, s, al, tp⟩ := x
  have hb : Below w.heap.size w (w.alloc (.cells #[.int .i64 k, .int .i64 lv, .int .i64 n, .string s, .slice B al.length (capN al.length b), .slice C tp.length (capN tp.length c)] 25)) := (Below.refl _ w).alloc (Nat.le_refl _) _
  unfold ndv
  simp only
  rcases (by omega : k = 7 ∨ k = 4 ∨ k = 5 ∨ k = 6 ∨ k = 3 ∨ k = 9 ∨ k = 11 ∨ k = 12 ∨ k = 2 ∨ k = 8 ∨ k = 10 ∨ k = 13 ∨ (k ≠ 7 ∧ k ≠ 4 ∧ k ≠ 5 ∧ k ≠ 6 ∧ k ≠ 3 ∧ k ≠ 9 ∧ k ≠ 11 ∧ k ≠ 12 ∧ k ≠ 2 ∧ k ≠ 8 ∧ k ≠ 10 ∧ k ≠ 13)) with rfl | rfl | rfl | rfl | rfl | rfl | rfl | rfl | rfl | rfl | rfl | rfl | ⟨a1, a2, a3, a4, a5, a6, a7, a8, a9, a10, a11, a12⟩
  rotate_right
  · have h1 : (k == 7) = false := by simpa using a1
    have h2 : (k == 4) = false := by simpa using a2
    have h3 : (k == 5) = false := by simpa using a3
    have h4 : (k == 6) = false := by simpa using a4
    have h5 : (k == 3) = false := by simpa using a5
    have h6 : (k == 9) = false := by simpa using a6
    have h7 : (k == 11) = false := by simpa using a7
    have h8 : (k == 12) = false := by simpa using a8
    have h9 : (k == 2) = false := by simpa using a9
    have h10 : (k == 8) = false := by simpa using a10
    have h11 : (k == 10) = false := by simpa using a11
    have h12 : (k == 13) = false := by simpa using a12
    have hp : Hid (roleV k = 0) := Lib.hid (by unfold roleV; repeat rw [if_neg (by omega)])
    clear a1 a2 a3 a4 a5 a6 a7 a8 a9 a10 a11 a12
    go_enter Try.func30, Try.ntmps30
    go_wp2_with fail
    go_ret
    exact ⟨nret_int hp.out.symm, hb⟩
  all_goals
    go_enter Try.func30, Try.ntmps30
    go_wp2_with fail
    go_ret
    exact ⟨rfl, hb⟩
set_option maxHeartbeats 8000000 in
theorem rurise_any (x : Nd) (B C : Option Addr) (b c : Nat) (w : World) : Calls Try.prog 40 #[ndv x B b C c] w fun e w' => e = .returned (.int .i64 (riseV x.kind)) ∧ Below w.heap.size w w' := by
  obtain ⟨k, lv, n, s, al, tp⟩ := x
  have hb : Below w.heap.size w (w.alloc (.cells #[.int .i64 k, .int .i64 lv, .int .i64 n, .string s, .slice B al.length (capN al.length b), .slice C tp.length (capN tp.length c)] 25)) := (Below.refl _ w).alloc (Nat.le_refl _) _
  unfold ndv
  simp only
  rcases (by omega : k = 5 ∨ k = 6 ∨ (k ≠ 5 ∧ k ≠ 6)) with rfl | rfl | ⟨a1, a2⟩
  rotate_right
  · have h1 : (k == 5) = false := by simpa using a1
    have h2 : (k == 6) = false := by simpa using a2
    have hp : Hid (riseV k = 0) := Lib.hid (by unfold riseV; repeat rw [if_neg (by omega)])
    clear a1 a2
    go_enter Try.func40, Try.ntmps40
    go_wp2_with fail
    go_ret
    exact ⟨nret_int hp.out.symm, hb⟩
  all_goals
    go_enter Try.func40, Try.ntmps40
    go_wp2_with fail
    go_ret
    exact ⟨rfl, hb⟩
set_option maxHeartbeats 8000000 in
theorem rubranches_any (x : Nd) (B C : Option Addr) (b c : Nat) (w : World) : Calls Try.prog 27 #[ndv x B b C c] w fun e w' => e = .returned (.int .i64 (branchV x.kind)) ∧ Below w.heap.size w w' := by
  obtain ⟨k, lv, n, s, al, tp⟩ := x
  have hb : Below w.heap.size w (w.alloc (.cells #[.int .i64 k, .int .i64 lv, .int .i64 n, .string s, .slice B al.length (capN al.length b), .slice C tp.length (capN tp.length c)] 25)) := (Below.refl _ w).alloc (Nat.le_refl _) _
  unfold ndv
  simp only
  by_cases h : k = 4
  · subst h
    go_enter Try.func27, Try.ntmps27
    go_wp2_with fail
    go_ret
    exact ⟨rfl, hb⟩
  · have h1 : (k == 4) = false := by simpa using h
    have hp : Hid (branchV k = 1) := Lib.hid (by unfold branchV; rw [if_neg h])
    clear h
    go_enter Try.func27, Try.ntmps27
    go_wp2_with fail
    go_ret
    exact ⟨nret_int hp.out.symm, hb⟩
set_option maxHeartbeats 8000000 in
theorem ruothers_any (x : Nd) (B C : Option Addr) (b c : Nat) (w : World) (hl : x.to.length ≤ 140737488351232) : Calls Try.prog 26 #[ndv x B b C c] w fun e w' => e = .returned (.int .i64 (othersV x)) ∧ Below w.heap.size w w' := by
  obtain ⟨k, lv, n, s, al, tp⟩ := x
  have hb : Below w.heap.size w (w.alloc (.cells #[.int .i64 k, .int .i64 lv, .int .i64 n, .string s, .slice B al.length (capN al.length b), .slice C tp.length (capN tp.length c)] 25)) := (Below.refl _ w).alloc (Nat.le_refl _) _
  unfold ndv othersV
  simp only at hl ⊢
  obtain ⟨m, hm⟩ : ∃ m, m = tp.length := ⟨_, rfl⟩
  rw [← hm] at hb hl ⊢
  clear hm
  go_enter Try.func26, Try.ntmps26
  go_wp2_with fail
  go_ret
  exact ⟨rfl, hb⟩
end Lx
end Go.Proofs.Ytlamjjkcbadibaa
namespace Go.Proofs.Ytlamjjkcbadibaa
open Go Go.RowKit
namespace Lx
set_option maxRecDepth 100000
/-- A node as six cells. -/
def cells6 (x : Nd) (B : Option Addr) (b : Nat) (C : Option Addr) (c : Nat) : Array Value := #[.int .i64 x.kind, .int .i64 x.level, .int .i64 x.n, .string x.name, .slice B x.alts.length (capN x.alts.length b), .slice C x.to.length (capN x.to.length c)]
def zeros6 : Array Value := #[.int .i64 0, .int .i64 0, .int .i64 0, .string ⟨#[]⟩, .slice none 0 0, .slice none 0 0]
def zeros10 : Array Value := #[.int .i64 0, .bool false, .int .i64 0, .int .i64 0, .int .i64 0, .int .i64 0, .int .i64 0, .string ⟨#[]⟩, .slice none 0 0, .slice none 0 0]
/-- A plan as a value: its node has no alternatives. -/
def plv (p : Pl) (C : Option Addr) (c : Nat) : Value := .agg #[.int .i64 p.kind, .bool p.swap, .int .i64 p.level, .int .i64 p.alt, .int .i64 p.node.kind, .int .i64 p.node.level, .int .i64 p.node.n, .string p.node.name, .slice none 0 0, .slice C p.node.to.length (capN p.node.to.length c)]
/-- What a plan keeps to. -/
def PlOk (w : World) (X : Nat → Prop) (p : Pl) (C : Option Addr) : Prop := p.node.alts = [] ∧ NdIn w X p.node none C
/-- What tells a plan, and an error. -/
def GivesPl (p : Pl) (x : Int) (w : World) (e : Ending) (w' : World) : Prop :=
  ∃ C c, e = .returned (.tuple #[plv p C c, .int .i64 x]) ∧ PlOk w' (fun g => w.heap.size ≤ g) p C ∧ Below w.heap.size w w'
def GivesPl1 (p : Pl) (w : World) (e : Ending) (w' : World) : Prop :=
  ∃ C c, e = .returned (plv p C c) ∧ PlOk w' (fun g => w.heap.size ≤ g) p C ∧ Below w.heap.size w w'
theorem PlOk.keep {w w' : World} {X Y : Nat → Prop} {p : Pl} {C : Option Addr} (h : PlOk w X p C) (hk : ∀ g j, X g → g < w.heap.size → w'.cell? ⟨g, j, none⟩ = w.cell? ⟨g, j, none⟩ ∧ Y g) : PlOk w' Y p C := ⟨h.1, h.2.keep hk⟩
theorem PlOk.below {w w' : World} {X : Nat → Prop} {p : Pl} {C : Option Addr} {D : Nat} (h : PlOk w X p C) (hb : Below D w w') (hD : w.heap.size ≤ D) : PlOk w' X p C := ⟨h.1, h.2.below hb hD⟩
theorem PlOk.one {w : World} {X : Nat → Prop} (k : Int) : PlOk w X (Pl.one k) none := ⟨rfl, NdIn.zero.keep (w := w) (w' := w) (X := fun _ => False) (fun _ _ h => h.elim)⟩
theorem PlOk.zero {w : World} {X : Nat → Prop} : PlOk w X Pl.zero none := ⟨rfl, NdIn.zero.keep (w := w) (w' := w) (X := fun _ => False) (fun _ _ h => h.elim)⟩
theorem PlOk.leaf {w : World} {X : Nat → Prop} {p : Pl} (h : p.node = Nd.zero) : PlOk w X p none := ⟨by rw [h]; rfl, by rw [h]; exact NdIn.zero.keep (w := w) (w' := w) (X := fun _ => False) (fun _ _ h => h.elim)⟩
/-- Ten cells stored, one behind the other. -/
def put10 (w : World) (G : Nat) (a b c d e f g h i j : Value) : World := (((((((((w.setCell ⟨G, 0, none⟩ a).setCell ⟨G, 1, none⟩ b).setCell ⟨G, 2, none⟩ c).setCell ⟨G, 3, none⟩ d).setCell ⟨G, 4, none⟩ e).setCell ⟨G, 5, none⟩ f).setCell ⟨G, 6, none⟩ g).setCell ⟨G, 7, none⟩ h).setCell ⟨G, 8, none⟩ i).setCell ⟨G, 9, none⟩ j
theorem lies_put10 {w : World} {G : Nat} {t : TypeId} {p0 p1 p2 p3 p4 p5 p6 p7 p8 p9 : Value} (H : Lies w G t #[p0, p1, p2, p3, p4, p5, p6, p7, p8, p9]) (a b c d e f g h i j : Value) : Lies (put10 w G a b c d e f g h i j) G t #[a, b, c, d, e, f, g, h, i, j] := by
  have := (((((((((H.put 0 a).put 1 b).put 2 c).put 3 d).put 4 e).put 5 f).put 6 g).put 7 h).put 8 i).put 9 j
  simpa [put10] using this
theorem put10_below {B : Nat} {w0 w : World} {G : Nat} (H : Below B w0 w) (hG : B ≤ G) (a b c d e f g h i j : Value) : Below B w0 (put10 w G a b c d e f g h i j) :=
  (((((((((H.setCell (p := ⟨G, 0, none⟩) hG a).setCell (p := ⟨G, 1, none⟩) hG b).setCell (p := ⟨G, 2, none⟩) hG c).setCell (p := ⟨G, 3, none⟩) hG d).setCell (p := ⟨G, 4, none⟩) hG e).setCell (p := ⟨G, 5, none⟩) hG f).setCell (p := ⟨G, 6, none⟩) hG g).setCell (p := ⟨G, 7, none⟩) hG h).setCell (p := ⟨G, 8, none⟩) hG i).setCell (p := ⟨G, 9, none⟩) hG j
theorem put10_keep {w : World} {X : Nat → Prop} {G : Nat} (hX : ¬ X G) (a b c d e f g h i j : Value) : ∀ q k, X q → q < w.heap.size → (put10 w G a b c d e f g h i j).cell? ⟨q, k, none⟩ = w.cell? ⟨q, k, none⟩ ∧ X q := fun q k hg _ => by
  have hne : q ≠ G := fun e => hX (e ▸ hg)
  refine ⟨?_, hg⟩
  unfold put10
  have h1 : ∀ (V : World) (m : Nat) (u : Value), (V.setCell ⟨G, m, none⟩ u).cell? ⟨q, k, none⟩ = V.cell? ⟨q, k, none⟩ := fun V m u => World.cell?_setCell_other V ⟨G, m, none⟩ ⟨q, k, none⟩ u (fun e => by injection e with e; exact hne e.symm)
  rw [h1, h1, h1, h1, h1, h1, h1, h1, h1, h1]
theorem put10_size (w : World) (G : Nat) (a b c d e f g h i j : Value) : (put10 w G a b c d e f g h i j).heap.size = w.heap.size := by simp [put10, World.setCell]
theorem put10_far {w : World} {G q : Nat} {t : TypeId} {cs : Array Value} (H : Lies w q t cs) (hne : q ≠ G) (a b c d e f g h i j : Value) : Lies (put10 w G a b c d e f g h i j) q t cs := by
  unfold put10
  exact (((((((((H.far (p := ⟨G, 0, none⟩) hne a).far (p := ⟨G, 1, none⟩) hne b).far (p := ⟨G, 2, none⟩) hne c).far (p := ⟨G, 3, none⟩) hne d).far (p := ⟨G, 4, none⟩) hne e).far (p := ⟨G, 5, none⟩) hne f).far (p := ⟨G, 6, none⟩) hne g).far (p := ⟨G, 7, none⟩) hne h).far (p := ⟨G, 8, none⟩) hne i).far (p := ⟨G, 9, none⟩) hne j
theorem ten_cells {w : World} {g : Nat} {t : TypeId} {a b c d e f a' b' c' d' : Value} (h : Lies w g t #[a, b, c, d, e, f, a', b', c', d']) :
    w.cell? ⟨g, 0, none⟩ = some a ∧ w.cell? ⟨g, 1, none⟩ = some b ∧ w.cell? ⟨g, 2, none⟩ = some c ∧ w.cell? ⟨g, 3, none⟩ = some d ∧ w.cell? ⟨g, 4, none⟩ = some e ∧ w.cell? ⟨g, 5, none⟩ = some f ∧ w.cell? ⟨g, 6, none⟩ = some a' ∧ w.cell? ⟨g, 7, none⟩ = some b' ∧ w.cell? ⟨g, 8, none⟩ = some c' ∧ w.cell? ⟨g, 9, none⟩ = some d' :=
  ⟨h.cell 0, h.cell 1, h.cell 2, h.cell 3, h.cell 4, h.cell 5, h.cell 6, h.cell 7, h.cell 8, h.cell 9⟩
theorem ten_frozen {w : World} {g : Nat} {t : TypeId} {cs : Array Value} (h : Lies w g t cs) :
    w.frozen? ⟨g, 0, none⟩ = false ∧ w.frozen? ⟨g, 1, none⟩ = false ∧ w.frozen? ⟨g, 2, none⟩ = false ∧ w.frozen? ⟨g, 3, none⟩ = false ∧ w.frozen? ⟨g, 4, none⟩ = false ∧ w.frozen? ⟨g, 5, none⟩ = false ∧ w.frozen? ⟨g, 6, none⟩ = false ∧ w.frozen? ⟨g, 7, none⟩ = false ∧ w.frozen? ⟨g, 8, none⟩ = false ∧ w.frozen? ⟨g, 9, none⟩ = false :=
  ⟨h.frozen 0, h.frozen 1, h.frozen 2, h.frozen 3, h.frozen 4, h.frozen 5, h.frozen 6, h.frozen 7, h.frozen 8, h.frozen 9⟩
theorem six_frozen {w : World} {g : Nat} {t : TypeId} {cs : Array Value} (h : Lies w g t cs) :
    w.frozen? ⟨g, 0, none⟩ = false ∧ w.frozen? ⟨g, 1, none⟩ = false ∧ w.frozen? ⟨g, 2, none⟩ = false ∧ w.frozen? ⟨g, 3, none⟩ = false ∧ w.frozen? ⟨g, 4, none⟩ = false ∧ w.frozen? ⟨g, 5, none⟩ = false :=
  ⟨h.frozen 0, h.frozen 1, h.frozen 2, h.frozen 3, h.frozen 4, h.frozen 5⟩
theorem res_plan1 {fn : Func} {p : Tmp} (h : fn.results = #[.cell p 29]) {tmps : Array Value} {g : Nat} {a b c d e f a' b' c' d' : Value} {w : World} (hp : tmps.getD p undef = .pointer (some ⟨g, 0, none⟩)) (L : Lies w g 29 #[a, b, c, d, e, f, a', b', c', d']) :
    (results fn tmps).run Try.prog w = .ok (.agg #[a, b, c, d, e, f, a', b', c', d']) w := by
  have hl := run_loadVar_row (P := Try.prog) w g 29 29 #[a, b, c, d, e, f, a', b', c', d'] (0, 0) _ L Try.underlying29 rfl (by kernel_rfl)
  have hp' : tmps[p]?.getD undef = .pointer (some ⟨g, 0, none⟩) := by simpa using hp
  simp only [results, h]
  simp [hp', asAddr, hl]
theorem res_plan2 {fn : Func} {p q : Tmp} (h : fn.results = #[.cell p 29, .tmp q]) {tmps : Array Value} {g : Nat} {a b c d e f a' b' c' d' : Value} {w : World} (hp : tmps.getD p undef = .pointer (some ⟨g, 0, none⟩)) (L : Lies w g 29 #[a, b, c, d, e, f, a', b', c', d']) :
    (results fn tmps).run Try.prog w = .ok (.tuple #[.agg #[a, b, c, d, e, f, a', b', c', d'], tmps.getD q undef]) w := by
  have hl := run_loadVar_row (P := Try.prog) w g 29 29 #[a, b, c, d, e, f, a', b', c', d'] (0, 0) _ L Try.underlying29 rfl (by kernel_rfl)
  have hp' : tmps[p]?.getD undef = .pointer (some ⟨g, 0, none⟩) := by simpa using hp
  simp only [results, h]
  simp [hp', asAddr, hl]
theorem res_nodes2 {fn : Func} {p q : Tmp} (h : fn.results = #[.cell p 25, .cell q 25]) {tmps : Array Value} {g g' : Nat} {a b c d e f a' b' c' d' e' f' : Value} {w : World} (hp : tmps.getD p undef = .pointer (some ⟨g, 0, none⟩)) (hq : tmps.getD q undef = .pointer (some ⟨g', 0, none⟩)) (L : Lies w g 25 #[a, b, c, d, e, f]) (L' : Lies w g' 25 #[a', b', c', d', e', f']) :
    (results fn tmps).run Try.prog w = .ok (.tuple #[.agg #[a, b, c, d, e, f], .agg #[a', b', c', d', e', f']]) w := by
  have hl := run_loadVar_row (P := Try.prog) w g 25 25 #[a, b, c, d, e, f] (0, 0) _ L Try.underlying25 rfl (by kernel_rfl)
  have hl' := run_loadVar_row (P := Try.prog) w g' 25 25 #[a', b', c', d', e', f'] (0, 0) _ L' Try.underlying25 rfl (by kernel_rfl)
  have hp' : tmps[p]?.getD undef = .pointer (some ⟨g, 0, none⟩) := by simpa using hp
  have hq' : tmps[q]?.getD undef = .pointer (some ⟨g', 0, none⟩) := by simpa using hq
  simp only [results, h]
  simp [hp', hq', asAddr, hl, hl']
theorem lies_put6R {w : World} {G : Nat} {t : TypeId} {p0 p1 p2 p3 p4 p5 : Value} (h : Lies w G t #[p0, p1, p2, p3, p4, p5]) (a b c d e f : Value) : Lies ((((((w.setCell ⟨G, 0, none⟩ a).setCell ⟨G, 1, none⟩ b).setCell ⟨G, 2, none⟩ c).setCell ⟨G, 3, none⟩ d).setCell ⟨G, 4, none⟩ e).setCell ⟨G, 5, none⟩ f) G t #[a, b, c, d, e, f] := by
  have := (((((h.put 0 a).put 1 b).put 2 c).put 3 d).put 4 e).put 5 f
  simpa using this
theorem put6R_far {w : World} {G q : Nat} {t : TypeId} {cs : Array Value} (H : Lies w q t cs) (hne : q ≠ G) (a b c d e f : Value) : Lies ((((((w.setCell ⟨G, 0, none⟩ a).setCell ⟨G, 1, none⟩ b).setCell ⟨G, 2, none⟩ c).setCell ⟨G, 3, none⟩ d).setCell ⟨G, 4, none⟩ e).setCell ⟨G, 5, none⟩ f) q t cs :=
  (((((H.far (p := ⟨G, 0, none⟩) hne a).far (p := ⟨G, 1, none⟩) hne b).far (p := ⟨G, 2, none⟩) hne c).far (p := ⟨G, 3, none⟩) hne d).far (p := ⟨G, 4, none⟩) hne e).far (p := ⟨G, 5, none⟩) hne f
theorem put6R_below {B : Nat} {w0 w : World} {G : Nat} (h : Below B w0 w) (hG : B ≤ G) (a b c d e f : Value) : Below B w0 ((((((w.setCell ⟨G, 0, none⟩ a).setCell ⟨G, 1, none⟩ b).setCell ⟨G, 2, none⟩ c).setCell ⟨G, 3, none⟩ d).setCell ⟨G, 4, none⟩ e).setCell ⟨G, 5, none⟩ f) :=
  (((((h.setCell (p := ⟨G, 0, none⟩) hG a).setCell (p := ⟨G, 1, none⟩) hG b).setCell (p := ⟨G, 2, none⟩) hG c).setCell (p := ⟨G, 3, none⟩) hG d).setCell (p := ⟨G, 4, none⟩) hG e).setCell (p := ⟨G, 5, none⟩) hG f
def ndsel (s : Bool) (x y : Value) : Value := if s then .tuple #[y, x] else .tuple #[x, y]
set_option maxHeartbeats 8000000 in
theorem runamed_any (sw : Bool) (k l n k' l' n' : Int) (s s' : ByteArray) (A B A' B' : Option Addr) (m a q b m' a' q' b' : Nat) (w : World) :
    Calls Try.prog 22 #[.bool sw, .agg #[.int .i64 k, .int .i64 l, .int .i64 n, .string s, .slice A m a, .slice B q b], .agg #[.int .i64 k', .int .i64 l', .int .i64 n', .string s', .slice A' m' a', .slice B' q' b']] w fun e w' =>
      e = .returned (ndsel sw (.agg #[.int .i64 k, .int .i64 l, .int .i64 n, .string s, .slice A m a, .slice B q b]) (.agg #[.int .i64 k', .int .i64 l', .int .i64 n', .string s', .slice A' m' a', .slice B' q' b'])) ∧ Below w.heap.size w w' := by
  obtain ⟨W, hW⟩ : ∃ W, W = ((((w.alloc (.cells #[.int .i64 k, .int .i64 l, .int .i64 n, .string s, .slice A m a, .slice B q b] 25)).alloc (.cells #[.int .i64 k', .int .i64 l', .int .i64 n', .string s', .slice A' m' a', .slice B' q' b'] 25)).alloc (.cells zeros6 25)).alloc (.cells zeros6 25)) := ⟨_, rfl⟩
  have hbW : Below w.heap.size w W := by rw [hW]; exact ((((Below.refl _ w).alloc (Nat.le_refl _) _).alloc (by simp) _).alloc (by simp; omega) _).alloc (by simp; omega) _
  have L1 : Lies W w.heap.size 25 #[.int .i64 k, .int .i64 l, .int .i64 n, .string s, .slice A m a, .slice B q b] := by rw [hW]; exact (((Lies.new _ _ _).old _).old _).old _
  have L2 : Lies W (w.heap.size + 1) 25 #[.int .i64 k', .int .i64 l', .int .i64 n', .string s', .slice A' m' a', .slice B' q' b'] := by
    rw [hW]; refine Lies.old (Lies.old ?_ _) _; simpa using Lies.new (w.alloc (.cells #[.int .i64 k, .int .i64 l, .int .i64 n, .string s, .slice A m a, .slice B q b] 25)) 25 #[.int .i64 k', .int .i64 l', .int .i64 n', .string s', .slice A' m' a', .slice B' q' b']
  have L3 : Lies W (w.heap.size + 1 + 1) 25 zeros6 := by
    rw [hW]; refine Lies.old ?_ _; simpa using Lies.new ((w.alloc (.cells #[.int .i64 k, .int .i64 l, .int .i64 n, .string s, .slice A m a, .slice B q b] 25)).alloc (.cells #[.int .i64 k', .int .i64 l', .int .i64 n', .string s', .slice A' m' a', .slice B' q' b'] 25)) 25 zeros6
  have L4 : Lies W (w.heap.size + 1 + 1 + 1) 25 zeros6 := by
    rw [hW]; simpa using Lies.new (((w.alloc (.cells #[.int .i64 k, .int .i64 l, .int .i64 n, .string s, .slice A m a, .slice B q b] 25)).alloc (.cells #[.int .i64 k', .int .i64 l', .int .i64 n', .string s', .slice A' m' a', .slice B' q' b'] 25)).alloc (.cells zeros6 25)) 25 zeros6
  unfold zeros6 at L3 L4 hW
  obtain ⟨a0, a1, a2, a3, a4, a5⟩ := six_cells L1
  obtain ⟨b0, b1, b2, b3, b4, b5⟩ := six_cells L2
  obtain ⟨c0, c1, c2, c3, c4, c5⟩ := six_cells L3
  obtain ⟨d0, d1, d2, d3, d4, d5⟩ := six_cells L4
  obtain ⟨f0, f1, f2, f3, f4, f5⟩ := six_frozen L3
  obtain ⟨g0, g1, g2, g3, g4, g5⟩ := six_frozen L4
  have HB := Lib.hid hbW
  have H3 := Lib.hid L3
  have H4 := Lib.hid L4
  clear L1 L2 L3 L4 hbW
  cases sw with
  | true =>
    go_enter Try.func22, Try.ntmps22
    go_upto_region 1 with fail
    rw [← hW]
    clear hW
    go_upto_region 2 with fail
    go_region
    obtain ⟨V, hV⟩ : ∃ V, V = ((((((((((((W.setCell ⟨w.heap.size + 1 + 1, 0, none⟩ (.int .i64 k')).setCell ⟨w.heap.size + 1 + 1, 1, none⟩ (.int .i64 l')).setCell ⟨w.heap.size + 1 + 1, 2, none⟩ (.int .i64 n')).setCell ⟨w.heap.size + 1 + 1, 3, none⟩ (.string s')).setCell ⟨w.heap.size + 1 + 1, 4, none⟩ (.slice A' m' a')).setCell ⟨w.heap.size + 1 + 1, 5, none⟩ (.slice B' q' b')).setCell ⟨w.heap.size + 1 + 1 + 1, 0, none⟩ (.int .i64 k)).setCell ⟨w.heap.size + 1 + 1 + 1, 1, none⟩ (.int .i64 l)).setCell ⟨w.heap.size + 1 + 1 + 1, 2, none⟩ (.int .i64 n)).setCell ⟨w.heap.size + 1 + 1 + 1, 3, none⟩ (.string s)).setCell ⟨w.heap.size + 1 + 1 + 1, 4, none⟩ (.slice A m a)).setCell ⟨w.heap.size + 1 + 1 + 1, 5, none⟩ (.slice B q b)).drew := ⟨_, rfl⟩
    have R3 : Lies V (w.heap.size + 1 + 1) 25 #[.int .i64 k', .int .i64 l', .int .i64 n', .string s', .slice A' m' a', .slice B' q' b'] := by rw [hV]; exact (put6R_far (lies_put6R H3.out _ _ _ _ _ _) (by omega) _ _ _ _ _ _).drew
    have R4 : Lies V (w.heap.size + 1 + 1 + 1) 25 #[.int .i64 k, .int .i64 l, .int .i64 n, .string s, .slice A m a, .slice B q b] := by rw [hV]; exact (lies_put6R (put6R_far H4.out (by omega) _ _ _ _ _ _) _ _ _ _ _ _).drew
    have hbV : Below w.heap.size w V := by rw [hV]; exact (put6R_below (put6R_below HB.out (by omega) _ _ _ _ _ _) (by omega) _ _ _ _ _ _).drew
    have H5 := Lib.hid R3
    have H6 := Lib.hid R4
    have H7 := Lib.hid hbV
    rw [← hV]
    clear a0 a1 a2 a3 a4 a5 b0 b1 b2 b3 b4 b5 c0 c1 c2 c3 c4 c5 d0 d1 d2 d3 d4 d5 f0 f1 f2 f3 f4 f5 g0 g1 g2 g3 g4 g5 HB H3 H4 R3 R4 hbV hV
    go_wp2_with fail
    exact bodyPost_ret (res_nodes2 (p := 6) (q := 7) Try.results22 rfl rfl H5.out H6.out) rfl ⟨rfl, H7.out⟩
  | false =>
    go_enter Try.func22, Try.ntmps22
    go_upto_region 1 with fail
    rw [← hW]
    clear hW
    go_upto_region 3 with fail
    go_region
    obtain ⟨V, hV⟩ : ∃ V, V = ((((((((((((W.setCell ⟨w.heap.size + 1 + 1, 0, none⟩ (.int .i64 k)).setCell ⟨w.heap.size + 1 + 1, 1, none⟩ (.int .i64 l)).setCell ⟨w.heap.size + 1 + 1, 2, none⟩ (.int .i64 n)).setCell ⟨w.heap.size + 1 + 1, 3, none⟩ (.string s)).setCell ⟨w.heap.size + 1 + 1, 4, none⟩ (.slice A m a)).setCell ⟨w.heap.size + 1 + 1, 5, none⟩ (.slice B q b)).setCell ⟨w.heap.size + 1 + 1 + 1, 0, none⟩ (.int .i64 k')).setCell ⟨w.heap.size + 1 + 1 + 1, 1, none⟩ (.int .i64 l')).setCell ⟨w.heap.size + 1 + 1 + 1, 2, none⟩ (.int .i64 n')).setCell ⟨w.heap.size + 1 + 1 + 1, 3, none⟩ (.string s')).setCell ⟨w.heap.size + 1 + 1 + 1, 4, none⟩ (.slice A' m' a')).setCell ⟨w.heap.size + 1 + 1 + 1, 5, none⟩ (.slice B' q' b')).drew := ⟨_, rfl⟩
    have R3 : Lies V (w.heap.size + 1 + 1) 25 #[.int .i64 k, .int .i64 l, .int .i64 n, .string s, .slice A m a, .slice B q b] := by rw [hV]; exact (put6R_far (lies_put6R H3.out _ _ _ _ _ _) (by omega) _ _ _ _ _ _).drew
    have R4 : Lies V (w.heap.size + 1 + 1 + 1) 25 #[.int .i64 k', .int .i64 l', .int .i64 n', .string s', .slice A' m' a', .slice B' q' b'] := by rw [hV]; exact (lies_put6R (put6R_far H4.out (by omega) _ _ _ _ _ _) _ _ _ _ _ _).drew
    have hbV : Below w.heap.size w V := by rw [hV]; exact (put6R_below (put6R_below HB.out (by omega) _ _ _ _ _ _) (by omega) _ _ _ _ _ _).drew
    have H5 := Lib.hid R3
    have H6 := Lib.hid R4
    have H7 := Lib.hid hbV
    rw [← hV]
    clear a0 a1 a2 a3 a4 a5 b0 b1 b2 b3 b4 b5 c0 c1 c2 c3 c4 c5 d0 d1 d2 d3 d4 d5 f0 f1 f2 f3 f4 f5 g0 g1 g2 g3 g4 g5 HB H3 H4 R3 R4 hbV hV
    go_wp2_with fail
    exact bodyPost_ret (res_nodes2 (p := 6) (q := 7) Try.results22 rfl rfl H5.out H6.out) rfl ⟨rfl, H7.out⟩
end Lx
end Go.Proofs.Ytlamjjkcbadibaa
namespace Go.Proofs.Ytlamjjkcbadibaa
open Go Go.RowKit
namespace Lx
set_option maxRecDepth 100000
theorem calm_in (w : World) : ∃ V : Abv w, V.1 = w := ⟨⟨w, Below.refl _ w⟩, rfl⟩
theorem Abv.unfrozen {w : World} {g i : Nat} {b : Bool} (hg : g < w.heap.size) (h : w.frozen? ⟨g, i, none⟩ = b) (V : Abv w) : V.1.frozen? ⟨g, i, none⟩ = b := by rw [V.2.frozen (p := ⟨g, i, none⟩) hg]; exact h
theorem region_calm_in {P : Program} {id : Nat} {Q : Exit → Act → World → Prop} {a : Act} {w : World} {V0 : Abv w} {l : List Oper} (hm : P.follows .mixedOrders = true) (hB : Region.lexB .any l.toArray = true)
    (h : wpQuiet P l.toArray (fun w' => ∃ V : Abv w, w' = V.1) (fun a' => ∀ w', (∃ V : Abv w, w' = V.1) → Q .normal a' w') l a) : (Code.region id l.toArray true).wp P Q a V0.1 :=
  wp_region_quiet (C := fun w' => ∃ V : Abv w, w' = V.1) hm hB ⟨⟨V0.1.drew, V0.2.drew⟩, rfl⟩ (by simpa using h)
theorem calm_any {w : World} {f : FuncId} {args : Array Value} {v : Value} (h : ∀ U : World, Calls Try.prog f args U fun e w' => e = .returned v ∧ Below U.heap.size U w') (U : World) (hU : Below w.heap.size w U) :
    Calls Try.prog f args U fun e w' => e = .returned v ∧ ∃ V' : Abv w, w' = V'.1 := (h U).mono fun _ w' ⟨he, hb⟩ => ⟨he, ⟨w', hU.trans (hb.mono hU.size)⟩, rfl⟩
theorem wrapR_64 (x : Int) : wrapR x = wrap64 x := by unfold wrapR wrap64; omega
/-- A contract over all worlds above one. -/
theorem calm_all {w : World} {f : FuncId} {args : Array Value} {v : Value} (h : ∀ U : World, Calls Try.prog f args U fun e w' => e = .returned v ∧ Below U.heap.size U w') (V : Abv w) :
    Calls Try.prog f args V.1 fun e w' => e = .returned v ∧ ∃ V' : Abv w, w' = V'.1 := (h V.1).mono fun _ w' ⟨he, hb⟩ => ⟨he, ⟨w', V.2.trans (hb.mono V.2.size)⟩, rfl⟩
set_option maxHeartbeats 8000000 in
theorem ruahead_any (x y : Nd) (Bx Cx : Option Addr) (bx cx : Nat) (By Cy : Option Addr) (by_ cy : Nat) (w : World) :
    Calls Try.prog 21 #[.agg #[.int .i64 x.kind, .int .i64 x.level, .int .i64 x.n, .string x.name, .slice Bx x.alts.length (capN x.alts.length bx), .slice Cx x.to.length (capN x.to.length cx)], .agg #[.int .i64 y.kind, .int .i64 y.level, .int .i64 y.n, .string y.name, .slice By y.alts.length (capN y.alts.length by_), .slice Cy y.to.length (capN y.to.length cy)]] w fun e w' => e = .returned (.bool (aheadV x y)) ∧ Below w.heap.size w w' := by
  obtain ⟨W, hW⟩ : ∃ W, W = ((w.alloc (.cells #[.int .i64 x.kind, .int .i64 x.level, .int .i64 x.n, .string x.name, .slice Bx x.alts.length (capN x.alts.length bx), .slice Cx x.to.length (capN x.to.length cx)] 25)).alloc (.cells #[.int .i64 y.kind, .int .i64 y.level, .int .i64 y.n, .string y.name, .slice By y.alts.length (capN y.alts.length by_), .slice Cy y.to.length (capN y.to.length cy)] 25)) := ⟨_, rfl⟩
  have hbW : Below w.heap.size w W := by rw [hW]; exact (((Below.refl _ w).alloc (Nat.le_refl _) _).alloc (by simp) _)
  have L0 : Lies W (w.heap.size) 25 #[.int .i64 x.kind, .int .i64 x.level, .int .i64 x.n, .string x.name, .slice Bx x.alts.length (capN x.alts.length bx), .slice Cx x.to.length (capN x.to.length cx)] := by
    rw [hW]
    refine Lies.old ?_ _
    exact Lies.new _ _ _
  have L1 : Lies W (w.heap.size + 1) 25 #[.int .i64 y.kind, .int .i64 y.level, .int .i64 y.n, .string y.name, .slice By y.alts.length (capN y.alts.length by_), .slice Cy y.to.length (capN y.to.length cy)] := by
    rw [hW]
    simpa using Lies.new (w.alloc (.cells #[.int .i64 x.kind, .int .i64 x.level, .int .i64 x.n, .string x.name, .slice Bx x.alts.length (capN x.alts.length bx), .slice Cx x.to.length (capN x.to.length cx)] 25)) 25 #[.int .i64 y.kind, .int .i64 y.level, .int .i64 y.n, .string y.name, .slice By y.alts.length (capN y.alts.length by_), .slice Cy y.to.length (capN y.to.length cy)]
  obtain ⟨x0, x1, x2, x3, x4, x5⟩ := six_cells L0
  replace x0 := Abv.cell x0
  replace x1 := Abv.cell x1
  replace x2 := Abv.cell x2
  replace x3 := Abv.cell x3
  replace x4 := Abv.cell x4
  replace x5 := Abv.cell x5
  obtain ⟨y0, y1, y2, y3, y4, y5⟩ := six_cells L1
  replace y0 := Abv.cell y0
  replace y1 := Abv.cell y1
  replace y2 := Abv.cell y2
  replace y3 := Abv.cell y3
  replace y4 := Abv.cell y4
  replace y5 := Abv.cell y5
  have HB := Lib.hid hbW
  clear L0 L1 hbW
  have HX := fun V : Abv W => calm_all (fun U => rurole_any x Bx Cx bx cx U) V
  have HY := fun V : Abv W => calm_all (fun U => rurole_any y By Cy by_ cy U) V
  unfold ndv at HX HY
  have HE : Hid (aheadV x y = if roleV x.kind = 2 ∧ roleV y.kind = 2 then decide (x.level < y.level) else decide (roleV x.kind < roleV y.kind)) := Lib.hid rfl
  obtain ⟨q, hq⟩ : ∃ q, q = aheadV x y := ⟨_, rfl⟩
  rw [← hq] at HE ⊢
  clear hq
  obtain ⟨rx, hrx⟩ : ∃ r, r = roleV x.kind := ⟨_, rfl⟩
  obtain ⟨ry, hry⟩ : ∃ r, r = roleV y.kind := ⟨_, rfl⟩
  rw [← hrx] at HX HE
  rw [← hry] at HY HE
  clear hrx hry
  by_cases h1 : rx = 2
  · subst h1
    by_cases h2 : ry = 2
    · subst h2
      go_enter Try.func21, Try.ntmps21
      go_upto_region 1 with fail
      rw [← hW]
      clear hW
      obtain ⟨V0, hV0⟩ := calm_in W
      rw [← hV0]
      clear hV0
      go_wp2_with fail
      refine (HX _).mono ?_
      rintro e _ ⟨rfl, V1, rfl⟩
      go_wp2_with fail
      refine (HY _).mono ?_
      rintro e _ ⟨rfl, V2, rfl⟩
      go_wp2_with fail
      go_ret
      exact ⟨nret_bool (by rw [HE.out]; simp), HB.out.trans (V2.2.mono HB.out.size)⟩
    · have h2' : (ry == 2) = false := by simpa using h2
      go_enter Try.func21, Try.ntmps21
      go_upto_region 1 with fail
      rw [← hW]
      clear hW
      obtain ⟨V0, hV0⟩ := calm_in W
      rw [← hV0]
      clear hV0
      go_wp2_with fail
      refine (HX _).mono ?_
      rintro e _ ⟨rfl, V1, rfl⟩
      go_wp2_with fail
      refine (HY _).mono ?_
      rintro e _ ⟨rfl, V2, rfl⟩
      go_upto_region 3 with fail
      refine region_calm_in (by kernel_rfl) (by kernel_rfl) ?_
      go_big_quiet_step (fail)
      go_big_quiet_step (exact HX _)
      go_big_quiet_step (fail)
      go_big_quiet_step (exact HY _)
      go_big_quiet_step (fail)
      go_big_quiet_step (fail)
      refine wpQuiet_nil ?_
      rintro _ ⟨V9, rfl⟩
      go_wp2_with fail
      go_ret
      exact ⟨nret_bool (by rw [HE.out]; simp; intro h; exact absurd h h2), HB.out.trans (V9.2.mono HB.out.size)⟩
  · have h1' : (rx == 2) = false := by simpa using h1
    go_enter Try.func21, Try.ntmps21
    go_upto_region 1 with fail
    rw [← hW]
    clear hW
    obtain ⟨V0, hV0⟩ := calm_in W
    rw [← hV0]
    clear hV0
    go_wp2_with fail
    refine (HX _).mono ?_
    rintro e _ ⟨rfl, V1, rfl⟩
    go_upto_region 3 with fail
    refine region_calm_in (by kernel_rfl) (by kernel_rfl) ?_
    go_big_quiet_step (fail)
    go_big_quiet_step (exact HX _)
    go_big_quiet_step (fail)
    go_big_quiet_step (exact HY _)
    go_big_quiet_step (fail)
    go_big_quiet_step (fail)
    refine wpQuiet_nil ?_
    rintro _ ⟨V9, rfl⟩
    go_wp2_with fail
    go_ret
    exact ⟨nret_bool (by rw [HE.out]; simp; intro h; exact absurd h h1), HB.out.trans (V9.2.mono HB.out.size)⟩
set_option maxHeartbeats 8000000 in
theorem rupass_any (x y : Nd) (Bx Cx : Option Addr) (bx cx : Nat) (By Cy : Option Addr) (by_ cy : Nat) (w : World) :
    Calls Try.prog 31 #[.agg #[.int .i64 x.kind, .int .i64 x.level, .int .i64 x.n, .string x.name, .slice Bx x.alts.length (capN x.alts.length bx), .slice Cx x.to.length (capN x.to.length cx)], .agg #[.int .i64 y.kind, .int .i64 y.level, .int .i64 y.n, .string y.name, .slice By y.alts.length (capN y.alts.length by_), .slice Cy y.to.length (capN y.to.length cy)]] w (GivesPl (passV x y).1 (passV x y).2 w) := by
  obtain ⟨W, hW⟩ : ∃ W, W = (((w.alloc (.cells #[.int .i64 x.kind, .int .i64 x.level, .int .i64 x.n, .string x.name, .slice Bx x.alts.length (capN x.alts.length bx), .slice Cx x.to.length (capN x.to.length cx)] 25)).alloc (.cells #[.int .i64 y.kind, .int .i64 y.level, .int .i64 y.n, .string y.name, .slice By y.alts.length (capN y.alts.length by_), .slice Cy y.to.length (capN y.to.length cy)] 25)).alloc (.cells #[.int .i64 0, .bool false, .int .i64 0, .int .i64 0, .int .i64 0, .int .i64 0, .int .i64 0, .string ⟨#[]⟩, .slice none 0 0, .slice none 0 0] 29)) := ⟨_, rfl⟩
  have hbW : Below w.heap.size w W := by rw [hW]; exact ((((Below.refl _ w).alloc (Nat.le_refl _) _).alloc (by simp) _).alloc (by simp; omega) _)
  have L0 : Lies W (w.heap.size) 25 #[.int .i64 x.kind, .int .i64 x.level, .int .i64 x.n, .string x.name, .slice Bx x.alts.length (capN x.alts.length bx), .slice Cx x.to.length (capN x.to.length cx)] := by
    rw [hW]
    refine Lies.old ?_ _
    refine Lies.old ?_ _
    exact Lies.new _ _ _
  have L1 : Lies W (w.heap.size + 1) 25 #[.int .i64 y.kind, .int .i64 y.level, .int .i64 y.n, .string y.name, .slice By y.alts.length (capN y.alts.length by_), .slice Cy y.to.length (capN y.to.length cy)] := by
    rw [hW]
    refine Lies.old ?_ _
    simpa using Lies.new (w.alloc (.cells #[.int .i64 x.kind, .int .i64 x.level, .int .i64 x.n, .string x.name, .slice Bx x.alts.length (capN x.alts.length bx), .slice Cx x.to.length (capN x.to.length cx)] 25)) 25 #[.int .i64 y.kind, .int .i64 y.level, .int .i64 y.n, .string y.name, .slice By y.alts.length (capN y.alts.length by_), .slice Cy y.to.length (capN y.to.length cy)]
  have L2 : Lies W (w.heap.size + 1 + 1) 29 #[.int .i64 0, .bool false, .int .i64 0, .int .i64 0, .int .i64 0, .int .i64 0, .int .i64 0, .string ⟨#[]⟩, .slice none 0 0, .slice none 0 0] := by
    rw [hW]
    simpa using Lies.new ((w.alloc (.cells #[.int .i64 x.kind, .int .i64 x.level, .int .i64 x.n, .string x.name, .slice Bx x.alts.length (capN x.alts.length bx), .slice Cx x.to.length (capN x.to.length cx)] 25)).alloc (.cells #[.int .i64 y.kind, .int .i64 y.level, .int .i64 y.n, .string y.name, .slice By y.alts.length (capN y.alts.length by_), .slice Cy y.to.length (capN y.to.length cy)] 25)) 29 #[.int .i64 0, .bool false, .int .i64 0, .int .i64 0, .int .i64 0, .int .i64 0, .int .i64 0, .string ⟨#[]⟩, .slice none 0 0, .slice none 0 0]
  obtain ⟨x0, x1, x2, x3, x4, x5⟩ := six_cells L0
  replace x0 := Abv.cell x0
  replace x1 := Abv.cell x1
  replace x2 := Abv.cell x2
  replace x3 := Abv.cell x3
  replace x4 := Abv.cell x4
  replace x5 := Abv.cell x5
  obtain ⟨y0, y1, y2, y3, y4, y5⟩ := six_cells L1
  replace y0 := Abv.cell y0
  replace y1 := Abv.cell y1
  replace y2 := Abv.cell y2
  replace y3 := Abv.cell y3
  replace y4 := Abv.cell y4
  replace y5 := Abv.cell y5
  obtain ⟨r0, r1, r2, r3, r4, r5, r6, r7, r8, r9⟩ := ten_cells L2
  replace r0 := Abv.cell r0
  replace r1 := Abv.cell r1
  replace r2 := Abv.cell r2
  replace r3 := Abv.cell r3
  replace r4 := Abv.cell r4
  replace r5 := Abv.cell r5
  replace r6 := Abv.cell r6
  replace r7 := Abv.cell r7
  replace r8 := Abv.cell r8
  replace r9 := Abv.cell r9
  have HR := Lib.hid L2
  obtain ⟨f0, f1, f2, f3, f4, f5, f6, f7, f8, f9⟩ := ten_frozen L2
  replace f0 := Abv.unfrozen L2.lt f0
  replace f1 := Abv.unfrozen L2.lt f1
  replace f2 := Abv.unfrozen L2.lt f2
  replace f3 := Abv.unfrozen L2.lt f3
  replace f4 := Abv.unfrozen L2.lt f4
  replace f5 := Abv.unfrozen L2.lt f5
  replace f6 := Abv.unfrozen L2.lt f6
  replace f7 := Abv.unfrozen L2.lt f7
  replace f8 := Abv.unfrozen L2.lt f8
  replace f9 := Abv.unfrozen L2.lt f9
  have HB := Lib.hid hbW
  clear L0 L1 L2 hbW
  have HX := fun V : Abv W => calm_all (fun U => rurise_any x Bx Cx bx cx U) V
  have HXU := fun (U : World) (hU : Below W.heap.size W U) => calm_any (fun U => rurise_any x Bx Cx bx cx U) U hU
  unfold ndv at HX HXU
  have HE : Hid (passV x y = if y.level > 60 - riseV x.kind then (Pl.zero, 141) else (⟨7, false, wrapR (y.level + riseV x.kind), 0, Nd.zero⟩, 0)) := Lib.hid rfl
  have hc := rise_cases x.kind
  obtain ⟨rx, hrx⟩ : ∃ r, r = riseV x.kind := ⟨_, rfl⟩
  rw [← hrx] at HX HXU HE hc
  obtain ⟨yl, hyl⟩ : ∃ q, q = y.level := ⟨_, rfl⟩
  obtain ⟨PP, hPP⟩ : ∃ q, q = passV x y := ⟨_, rfl⟩
  rw [← hPP] at HE ⊢
  clear hrx hyl hPP
  by_cases h : y.level > 60 - rx
  · rw [if_pos h] at HE
    have h0 : decide (60 - rx < y.level) = true := decide_eq_true h
    go_enter Try.func31, Try.ntmps31
    go_upto_region 1 with fail
    rw [← hW]
    clear hW
    obtain ⟨V0, hV0⟩ := calm_in W
    rw [← hV0]
    clear hV0
    rcases hc with rfl | rfl | rfl
    all_goals
      refine region_calm_in (by kernel_rfl) (by kernel_rfl) ?_
      go_big_quiet_step (fail)
      go_big_quiet_step (fail)
      go_big_quiet_step (fail)
      go_big_quiet_step (exact HX _)
      go_big_quiet_step (fail)
      go_big_quiet_step (fail)
      refine wpQuiet_nil ?_
      rintro _ ⟨V9, rfl⟩
      go_wp2_with fail
      refine bodyPost_ret (res_plan2 (p := 4) (q := 5) Try.results31 rfl (lies_put10 (HR.out.below V9.2 HR.out.lt) _ _ _ _ _ _ _ _ _ _)) rfl ?_
      rw [HE.out]
      exact ⟨none, 0, rfl, PlOk.leaf rfl, put10_below (HB.out.trans (V9.2.mono HB.out.size)) (by omega) _ _ _ _ _ _ _ _ _ _⟩
  · rw [if_neg h] at HE
    have h0 : decide (60 - rx < y.level) = false := decide_eq_false h
    have hw : ((y.level + rx + 9223372036854775808) % 18446744073709551616 - 9223372036854775808) = wrapR (y.level + rx) := rfl
    go_enter Try.func31, Try.ntmps31
    go_upto_region 1 with fail
    rw [← hW]
    clear hW
    obtain ⟨V0, hV0⟩ := calm_in W
    rw [← hV0]
    clear hV0
    rcases hc with rfl | rfl | rfl
    all_goals
      refine region_calm_in (by kernel_rfl) (by kernel_rfl) ?_
      go_big_quiet_step (fail)
      go_big_quiet_step (fail)
      go_big_quiet_step (fail)
      go_big_quiet_step (exact HX _)
      go_big_quiet_step (fail)
      go_big_quiet_step (fail)
      refine wpQuiet_nil ?_
      rintro _ ⟨V9, rfl⟩
      go_upto_region 3 with fail
      go_region_with (go_at_call 40; refine (HXU _ (by first | exact V9.2 | exact Below.drew (V9.2))).mono ?_; rintro e _ ⟨rfl, V1, rfl⟩)
      all_goals
        go_wp2_with fail
        simp only [IntWalk.i64_left]
        refine bodyPost_ret (res_plan2 (p := 4) (q := 5) Try.results31 rfl (lies_put10 (HR.out.below V1.2 HR.out.lt) _ _ _ _ _ _ _ _ _ _)) rfl ?_
        rw [HE.out, wrapR_64]
        try simp only [Int.add_zero]
        exact ⟨none, 0, rfl, PlOk.leaf rfl, put10_below (HB.out.trans (V1.2.mono HB.out.size)) (by omega) _ _ _ _ _ _ _ _ _ _⟩
end Lx
end Go.Proofs.Ytlamjjkcbadibaa
