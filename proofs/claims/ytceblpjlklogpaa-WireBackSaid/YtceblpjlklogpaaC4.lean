/-
  Texts that lie one behind the other: NlV NwE NwT NwA NwB.
-/
import Derived.Test.YtceblpjlklogpaaC3
import Derived.Test.YtceblpjlklogpaaC1
import Derived.Laws.StructEq
namespace Go.Proofs.Ytceblpjlklogpaa
open Go Go.RowKit
namespace Lx
set_option maxRecDepth 100000
theorem res_net2 {fn : Func} {p q : Tmp} (h : fn.results = #[.cell p 24, .tmp q]) {tmps : Array Value} {g : Nat} {a b : Value} {w : World} (hp : tmps.getD p undef = .pointer (some ⟨g, 0, none⟩)) (L : Lies w g 24 #[a, b]) :
    (results fn tmps).run Try.prog w = .ok (.tuple #[.agg #[a, b], tmps.getD q undef]) w := by
  have hl := run_loadVar_row (P := Try.prog) w g 24 24 #[a, b] (0, 0) _ L Try.underlying24 rfl (by kernel_rfl)
  have hp' : tmps[p]?.getD undef = .pointer (some ⟨g, 0, none⟩) := by simpa using hp
  simp only [results, h]
  simp [hp', asAddr, hl]
theorem res_net3 {fn : Func} {p q r : Tmp} (h : fn.results = #[.cell p 24, .tmp q, .tmp r]) {tmps : Array Value} {g : Nat} {a b : Value} {w : World} (hp : tmps.getD p undef = .pointer (some ⟨g, 0, none⟩)) (L : Lies w g 24 #[a, b]) :
    (results fn tmps).run Try.prog w = .ok (.tuple #[.agg #[a, b], tmps.getD q undef, tmps.getD r undef]) w := by
  have hl := run_loadVar_row (P := Try.prog) w g 24 24 #[a, b] (0, 0) _ L Try.underlying24 rfl (by kernel_rfl)
  have hp' : tmps[p]?.getD undef = .pointer (some ⟨g, 0, none⟩) := by simpa using hp
  simp only [results, h]
  simp [hp', asAddr, hl]
/-- What a function that makes a net answers, with what comes behind it. -/
def GivesNet (ns : List Nd) (cap : Int) (r : List Value) (w : World) (e : Ending) (w' : World) : Prop :=
  ∃ A c, e = .returned (.tuple (netv ns A c cap :: r).toArray) ∧ NdsIn w' (fun g => w.heap.size ≤ g) ns A ∧ Below w.heap.size w w'
def newNs : List Nd := [⟨1, 0, 0, ⟨#[]⟩, [], [(1, 0)]⟩, ⟨13, 0, 0, ⟨#[]⟩, [], [(0, 0)]⟩]
theorem newNs_b1 : NdB ⟨1, 0, 0, ⟨#[]⟩, [], [(1, 0)]⟩ := ⟨by decide, by decide, by decide⟩
theorem newNs_b2 : NdB ⟨13, 0, 0, ⟨#[]⟩, [], [(0, 0)]⟩ := ⟨by decide, by decide, by decide⟩
theorem lies_at {w : World} {g : Nat} {t : TypeId} {cs : Array Value} (h : w.heap.size = g) : Lies (w.alloc (.cells cs t)) g t cs := by
  subst h
  exact Lies.new _ _ _
end Lx
end Go.Proofs.Ytceblpjlklogpaa
namespace Go.Proofs.Ytceblpjlklogpaa
open Go Go.RowKit
namespace Lx
set_option maxRecDepth 100000
theorem Lies.put0 {w : World} {g : Nat} {t : TypeId} {a b : Value} (h : Lies w g t #[a, b]) (u : Value) : Lies (w.setCell ⟨g, 0, none⟩ u) g t #[u, b] := by
  have := h.put 0 u
  simpa using this
theorem lies_grown9 {w w' : World} {g : Nat} {t : TypeId} {cs : Array Value} {row : Option Nat} (h : Lies w g t cs) (hg : w.grownBy w' row) (hr : row ≠ some g) : Lies w' g t cs := (hg.block g h.lt (fun e => hr e.symm)).trans h
set_option maxHeartbeats 8000000 in
theorem rcopy_any (l : List Nd) (A : Option Addr) (m c : Nat) (cap : Int) (w : World) (hm : m = l.length) (hm2 : m ≤ 100000) (X : Nat → Prop) (hX : ∀ g, X g → g < w.heap.size) (hN : NdsIn w X l A) :
    Calls Try.prog 35 #[.agg #[.slice A m c, .int .i64 cap]] w fun e w' => ∃ Av cv xs, e = .returned (.agg #[.slice Av m cv, .int .i64 cap]) ∧ w'.ownsRow (w.heap.size + 3) 43 6 (.slice Av m cv) m xs ∧ RowNd w' X l xs ∧ Below w.heap.size w w' := by
  obtain ⟨w1, hw1⟩ : ∃ w1, w1 = ((w.alloc (.cells #[.slice A m c, .int .i64 cap] 24)).alloc (.cells #[.slice none 0 0, .int .i64 0] 24)) := ⟨_, rfl⟩
  obtain ⟨W, hW⟩ : ∃ W, W = w1.alloc (.cells #[.slice none 0 0, .int .i64 cap] 24) := ⟨_, rfl⟩
  have hs1 : w1.heap.size = w.heap.size + 2 := by rw [hw1]; simp
  have hb1 : Below w.heap.size w w1 := by rw [hw1]; exact ((Below.refl _ w).alloc (Nat.le_refl _) _).alloc (by simp) _
  have hbW : Below w1.heap.size w1 W := by rw [hW]; exact (Below.refl _ w1).alloc (Nat.le_refl _) _
  have hb := hb1.trans (hbW.mono hb1.size)
  have hWs : W.heap.size = w.heap.size + 3 := by rw [hW]; simp [hs1]
  have L0 : Lies w1 w.heap.size 24 #[.slice A m c, .int .i64 cap] := by rw [hw1]; exact (Lies.new _ _ _).old _
  have L1 : Lies w1 (w.heap.size + 1) 24 #[.slice none 0 0, .int .i64 0] := by rw [hw1]; simpa using Lies.new (w.alloc (.cells #[.slice A m c, .int .i64 cap] 24)) 24 #[.slice none 0 0, .int .i64 0]
  have L2 : Lies W (w.heap.size + 2) 24 #[.slice none 0 0, .int .i64 cap] := by rw [hW, ← hs1]; exact Lies.new _ _ _
  obtain ⟨n0, n1⟩ := two_cells L0
  have HL0 := Lib.hid (L0.below hbW L0.lt)
  have HL1 := Lib.hid (L1.below hbW L1.lt)
  have HL2 := Lib.hid L2
  have HB := Lib.hid hb
  have hNW : NdsIn W X l A := hN.keep (fun b j hX hlt => ⟨hb.cell (p := ⟨b, j, none⟩) hlt, hX⟩)
  have HN := Lib.hid hNW
  have HM := Lib.hid hm
  obtain ⟨i0, hi0, hz0, hz1, hz2⟩ := info_partsN infoNd
  clear hN hm L0 L1 L2 hb hb1 hbW hNW
  go_enter Try.func35, Try.ntmps35
  go_upto_region 1 with fail
  rw [← hw1]
  clear hw1
  go_upto_region 2 with fail
  rw [← hW]
  clear hW n0 n1 hs1
  go_wp2_with fail
  go_loopw [4] (fun y wr => ∃ (i : Nat) (Av : Option Addr) (cv : Nat) (xs : List Value), i ≤ m ∧ y = .int .i64 i ∧ Hid (Lies wr w.heap.size 24 #[.slice A m c, .int .i64 cap] ∧ Lies wr (w.heap.size + 1) 24 #[.slice none 0 0, .int .i64 0] ∧ Lies wr (w.heap.size + 2) 24 #[.slice Av i cv, .int .i64 cap] ∧ wr.ownsRow (w.heap.size + 3) 43 6 (.slice Av i cv) i xs ∧ RowNd wr X (l.take i) xs ∧ NdsIn wr X l A ∧ Below w.heap.size w wr ∧ w.heap.size + 3 ≤ wr.heap.size)) (fun y _ => m - (intOf y).toNat)
  case atStart => exact ⟨0, none, 0, [], Nat.zero_le _, rfl, Lib.hid ⟨HL0.out, HL1.out, HL2.out, ⟨rfl, .inl ⟨rfl, rfl⟩⟩, by simpa using RowNd.nil, HN.out, HB.out, by omega⟩⟩
  case round =>
    obtain ⟨i, Av, cv, xs, hi, rfl, hV⟩ := hrel
    have h0 := hV.out.1
    have q0 := h0.cell 0
    simp at q0
    by_cases hlt : i < m
    · have hil : i < l.length := by have := HM.out; omega
      obtain ⟨g, o, x, B, bb, C, cc, hx, rfl, hgX, ⟨x0, x1, x2, x3, x4, x5⟩, hI⟩ := NdsIn.get hV.out.2.2.2.2.2.1 i hil
      obtain ⟨ba, hba⟩ : ∃ q, q = capN x.alts.length bb := ⟨_, rfl⟩
      obtain ⟨ct, hct⟩ : ∃ q, q = capN x.to.length cc := ⟨_, rfl⟩
      rw [← hba] at x4
      rw [← hct] at x5
      have HBA := Lib.hid hba
      have HCT := Lib.hid hct
      have HX := Lib.hid hx
      have HI := Lib.hid hI
      have h2 := hV.out.2.2.1
      have q2 := h2.cell 0
      simp at q2
      have hsz := hV.out.2.2.2.2.2.2.2
      obtain ⟨T, hT⟩ : ∃ T, T = wr.drew.alloc (.cells #[.int .i64 x.kind, .int .i64 x.level, .int .i64 x.n, .string x.name, .slice B x.alts.length ba, .slice C x.to.length ct] 43) := ⟨_, rfl⟩
      have hbT : Below wr.heap.size wr T := by rw [hT]; exact (Below.refl _ wr).drew.alloc (Nat.le_refl _) _
      have hTs : T.heap.size = wr.heap.size + 1 := by rw [hT]; show (wr.heap.push _).size = _; simp
      have HS0 : Hid ((fun V => V.cell? ⟨w.heap.size + 2, 0, none⟩ = some (.slice Av i cv) ∧ V.cell? ⟨w.heap.size, 0, none⟩ = some (.slice (some ⟨g, o, none⟩) m c) ∧ V.cell? ⟨g, o + i * 6, none⟩ = some (.int .i64 x.kind) ∧ V.cell? ⟨g, o + i * 6 + 1, none⟩ = some (.int .i64 x.level) ∧ V.cell? ⟨g, o + i * 6 + 2, none⟩ = some (.int .i64 x.n) ∧ V.cell? ⟨g, o + i * 6 + 3, none⟩ = some (.string x.name) ∧ V.cell? ⟨g, o + i * 6 + 4, none⟩ = some (.slice B x.alts.length ba) ∧ V.cell? ⟨g, o + i * 6 + 5, none⟩ = some (.slice C x.to.length ct)) wr.drew) := Lib.hid ⟨q2, q0, x0, x1, x2, x3, x4, x5⟩
      have hkeep : ∀ V : World, (∀ (q j : Nat), q < wr.heap.size → V.cell? ⟨q, j, none⟩ = wr.cell? ⟨q, j, none⟩) → (fun V => V.cell? ⟨w.heap.size + 2, 0, none⟩ = some (.slice Av i cv) ∧ V.cell? ⟨w.heap.size, 0, none⟩ = some (.slice (some ⟨g, o, none⟩) m c) ∧ V.cell? ⟨g, o + i * 6, none⟩ = some (.int .i64 x.kind) ∧ V.cell? ⟨g, o + i * 6 + 1, none⟩ = some (.int .i64 x.level) ∧ V.cell? ⟨g, o + i * 6 + 2, none⟩ = some (.int .i64 x.n) ∧ V.cell? ⟨g, o + i * 6 + 3, none⟩ = some (.string x.name) ∧ V.cell? ⟨g, o + i * 6 + 4, none⟩ = some (.slice B x.alts.length ba) ∧ V.cell? ⟨g, o + i * 6 + 5, none⟩ = some (.slice C x.to.length ct)) V := fun V hV9 => by
        have hgl := ncell_lt x0
        exact ⟨(hV9 _ _ h2.lt).trans q2, (hV9 _ _ h0.lt).trans q0, (hV9 _ _ hgl).trans x0, (hV9 _ _ hgl).trans x1, (hV9 _ _ hgl).trans x2, (hV9 _ _ hgl).trans x3, (hV9 _ _ hgl).trans x4, (hV9 _ _ hgl).trans x5⟩
      have HS1 : Hid ((fun V => V.cell? ⟨w.heap.size + 2, 0, none⟩ = some (.slice Av i cv) ∧ V.cell? ⟨w.heap.size, 0, none⟩ = some (.slice (some ⟨g, o, none⟩) m c) ∧ V.cell? ⟨g, o + i * 6, none⟩ = some (.int .i64 x.kind) ∧ V.cell? ⟨g, o + i * 6 + 1, none⟩ = some (.int .i64 x.level) ∧ V.cell? ⟨g, o + i * 6 + 2, none⟩ = some (.int .i64 x.n) ∧ V.cell? ⟨g, o + i * 6 + 3, none⟩ = some (.string x.name) ∧ V.cell? ⟨g, o + i * 6 + 4, none⟩ = some (.slice B x.alts.length ba) ∧ V.cell? ⟨g, o + i * 6 + 5, none⟩ = some (.slice C x.to.length ct)) (wr.drew.alloc (.cells #[.int .i64 x.kind, .int .i64 x.level, .int .i64 x.n, .string x.name, .slice B x.alts.length ba, .slice C x.to.length ct] 43))) := Lib.hid (by rw [← hT]; exact hkeep T (fun q j hq => hbT.cell (p := ⟨q, j, none⟩) hq))
      have HOW : Hid ((wr.drew.alloc (.cells #[.int .i64 x.kind, .int .i64 x.level, .int .i64 x.n, .string x.name, .slice B x.alts.length ba, .slice C x.to.length ct] 43)).ownsRow (w.heap.size + 3) 43 6 (.slice Av i cv) i xs) := Lib.hid (World.ownsRow.alloc hV.out.2.2.2.1 _)
      have HNW : Hid (∀ j u, ([.int .i64 x.kind, .int .i64 x.level, .int .i64 x.n, .string x.name, .slice B x.alts.length ba, .slice C x.to.length ct] : List Value)[j]? = some u → (wr.drew.alloc (.cells #[.int .i64 x.kind, .int .i64 x.level, .int .i64 x.n, .string x.name, .slice B x.alts.length ba, .slice C x.to.length ct] 43)).cell? ((⟨wr.heap.size, 0, none⟩ : Addr).add j) = some u) := Lib.hid fun j u hu => by
        have hL : Lies (wr.drew.alloc (.cells #[.int .i64 x.kind, .int .i64 x.level, .int .i64 x.n, .string x.name, .slice B x.alts.length ba, .slice C x.to.length ct] 43)) wr.heap.size 43 #[.int .i64 x.kind, .int .i64 x.level, .int .i64 x.n, .string x.name, .slice B x.alts.length ba, .slice C x.to.length ct] := Lies.new wr.drew _ _
        rw [nadd, Nat.zero_add, hL.cell]
        simpa using hu
      have HS9 : Hid (∀ v9 w9, w9.ownsRow (w.heap.size + 3) 43 6 v9 (i + 1) (xs ++ [.int .i64 x.kind, .int .i64 x.level, .int .i64 x.n, .string x.name, .slice B x.alts.length ba, .slice C x.to.length ct]) → (wr.drew.alloc (.cells #[.int .i64 x.kind, .int .i64 x.level, .int .i64 x.n, .string x.name, .slice B x.alts.length ba, .slice C x.to.length ct] 43)).grownBy w9 (Value.slice Av i cv).ownBlock → (fun V => V.cell? ⟨w.heap.size + 2, 0, none⟩ = some (.slice Av i cv) ∧ V.cell? ⟨w.heap.size, 0, none⟩ = some (.slice (some ⟨g, o, none⟩) m c) ∧ V.cell? ⟨g, o + i * 6, none⟩ = some (.int .i64 x.kind) ∧ V.cell? ⟨g, o + i * 6 + 1, none⟩ = some (.int .i64 x.level) ∧ V.cell? ⟨g, o + i * 6 + 2, none⟩ = some (.int .i64 x.n) ∧ V.cell? ⟨g, o + i * 6 + 3, none⟩ = some (.string x.name) ∧ V.cell? ⟨g, o + i * 6 + 4, none⟩ = some (.slice B x.alts.length ba) ∧ V.cell? ⟨g, o + i * 6 + 5, none⟩ = some (.slice C x.to.length ct)) w9 ∧ Lies w9 (w.heap.size + 2) 24 #[.slice Av i cv, .int .i64 cap] ∧ w9.frozen? ⟨w.heap.size + 2, 0, none⟩ = false ∧ Below (w.heap.size + 3) wr w9) := Lib.hid fun v9 w9 _ hg => by
        rw [← hT] at hg
        have hlow : ∀ q, q < w.heap.size + 3 → w9.heap[q]? = wr.heap[q]? := fun q hq => by
          have h9 : (Value.slice Av i cv).ownBlock ≠ some q := fun e => by
            have := (hV.out.2.2.2.1.lt q e).1
            omega
          exact (hg.block q (by omega) (fun e => h9 e.symm)).trans (hbT.block q (by omega))
        have hb9 : Below (w.heap.size + 3) wr w9 := by
          have := (hbT.mono (by omega : w.heap.size + 3 ≤ wr.heap.size)).grown hg (by omega) (fun q e => (hV.out.2.2.2.1.lt q e).1)
          exact this
        have hL9 : Lies w9 (w.heap.size + 2) 24 #[.slice Av i cv, .int .i64 cap] := (hlow _ (by omega)).trans h2
        have hgl : g < w.heap.size + 3 := by have := hX _ hgX; omega
        have hc : ∀ q j, q < w.heap.size + 3 → w9.cell? ⟨q, j, none⟩ = wr.cell? ⟨q, j, none⟩ := fun q j hq => World.cell?_of_block (hlow q hq)
        exact ⟨⟨(hc _ _ (by omega)).trans q2, (hc _ _ (by omega)).trans q0, (hc _ _ hgl).trans x0, (hc _ _ hgl).trans x1, (hc _ _ hgl).trans x2, (hc _ _ hgl).trans x3, (hc _ _ hgl).trans x4, (hc _ _ hgl).trans x5⟩, hL9, hL9.frozen 0, hb9⟩
      have HV := Lib.hid hV.out
      have him : (i : Int) < m := by omega
      clear hx hI hba hct hT hbT hkeep hV h0 h2 x0 x1 x2 x3 x4 x5 q2
      go_upto_region 5 with fail
      refine wp_region_K (S := (fun V => V.cell? ⟨w.heap.size + 2, 0, none⟩ = some (.slice Av i cv) ∧ V.cell? ⟨w.heap.size, 0, none⟩ = some (.slice (some ⟨g, o, none⟩) m c) ∧ V.cell? ⟨g, o + i * 6, none⟩ = some (.int .i64 x.kind) ∧ V.cell? ⟨g, o + i * 6 + 1, none⟩ = some (.int .i64 x.level) ∧ V.cell? ⟨g, o + i * 6 + 2, none⟩ = some (.int .i64 x.n) ∧ V.cell? ⟨g, o + i * 6 + 3, none⟩ = some (.string x.name) ∧ V.cell? ⟨g, o + i * 6 + 4, none⟩ = some (.slice B x.alts.length ba) ∧ V.cell? ⟨g, o + i * 6 + 5, none⟩ = some (.slice C x.to.length ct))) 10 rfl HS0.out (fun hSs => ?_)
      change wpAnyK _ _ _ _ _ _ 11 (Array.replicate 11 false) _ _
      refine wpAnyK_take (i := 0) (oi := ⟨some 15, _, _, _, _, _⟩) (v := .pointer (some ⟨w.heap.size + 2, 0, none⟩)) rfl (by kernel_rfl) (by kernel_rfl) (by kernel_rfl) (by kernel_rfl) (fun _ _ _ h => h) (.inl ⟨by kernel_rfl, fun W hW => by first | (obtain ⟨s0, s1, s2, s3, s4, s5, s6, s7⟩ := hW; go_simp; done) | (obtain ⟨s0, s1, s2, s3, s4, s5, s6, s7⟩ := hW; go_simp; omega) | (obtain ⟨s0, s1, s2, s3, s4, s5, s6, s7⟩ := hW; go_simp; simp [*]; done)⟩) hSs ?_
      try simp only [Act.put, List.setIfInBounds_toArray, List.set_cons_zero, List.set_cons_succ]
      refine wpAnyK_take (i := 1) (oi := ⟨some 16, _, _, _, _, _⟩) (v := .slice Av i cv) rfl (by kernel_rfl) (by kernel_rfl) (by kernel_rfl) (by kernel_rfl) (fun _ _ _ h => h) (.inl ⟨by kernel_rfl, fun W hW => by first | (obtain ⟨s0, s1, s2, s3, s4, s5, s6, s7⟩ := hW; go_simp; done) | (obtain ⟨s0, s1, s2, s3, s4, s5, s6, s7⟩ := hW; go_simp; omega) | (obtain ⟨s0, s1, s2, s3, s4, s5, s6, s7⟩ := hW; go_simp; simp [*]; done)⟩) hSs ?_
      try simp only [Act.put, List.setIfInBounds_toArray, List.set_cons_zero, List.set_cons_succ]
      refine wpAnyK_take (i := 2) (oi := ⟨some 17, _, _, _, _, _⟩) (v := .pointer (some ⟨w.heap.size, 0, none⟩)) rfl (by kernel_rfl) (by kernel_rfl) (by kernel_rfl) (by kernel_rfl) (fun _ _ _ h => h) (.inl ⟨by kernel_rfl, fun W hW => by first | (obtain ⟨s0, s1, s2, s3, s4, s5, s6, s7⟩ := hW; go_simp; done) | (obtain ⟨s0, s1, s2, s3, s4, s5, s6, s7⟩ := hW; go_simp; omega) | (obtain ⟨s0, s1, s2, s3, s4, s5, s6, s7⟩ := hW; go_simp; simp [*]; done)⟩) hSs ?_
      try simp only [Act.put, List.setIfInBounds_toArray, List.set_cons_zero, List.set_cons_succ]
      refine wpAnyK_take (i := 3) (oi := ⟨some 18, _, _, _, _, _⟩) (v := .slice (some ⟨g, o, none⟩) m c) rfl (by kernel_rfl) (by kernel_rfl) (by kernel_rfl) (by kernel_rfl) (fun _ _ _ h => h) (.inl ⟨by kernel_rfl, fun W hW => by first | (obtain ⟨s0, s1, s2, s3, s4, s5, s6, s7⟩ := hW; go_simp; done) | (obtain ⟨s0, s1, s2, s3, s4, s5, s6, s7⟩ := hW; go_simp; omega) | (obtain ⟨s0, s1, s2, s3, s4, s5, s6, s7⟩ := hW; go_simp; simp [*]; done)⟩) hSs ?_
      try simp only [Act.put, List.setIfInBounds_toArray, List.set_cons_zero, List.set_cons_succ]
      refine wpAnyK_take (i := 4) (oi := ⟨some 19, _, _, _, _, _⟩) (v := .int .i64 i) rfl (by kernel_rfl) (by kernel_rfl) (by kernel_rfl) (by kernel_rfl) (fun _ _ _ h => h) (.inl ⟨by kernel_rfl, fun W hW => by kernel_rfl⟩) hSs ?_
      try simp only [Act.put, List.setIfInBounds_toArray, List.set_cons_zero, List.set_cons_succ]
      refine wpAnyK_take (i := 5) (oi := ⟨some 20, _, _, _, _, _⟩) (v := .pointer (some ⟨g, o + i * 6, none⟩)) rfl (by kernel_rfl) (by kernel_rfl) (by kernel_rfl) (by kernel_rfl) (fun _ _ _ h => h) (.inl ⟨by kernel_rfl, fun W hW => by first | (obtain ⟨s0, s1, s2, s3, s4, s5, s6, s7⟩ := hW; go_simp; done) | (obtain ⟨s0, s1, s2, s3, s4, s5, s6, s7⟩ := hW; go_simp; omega) | (obtain ⟨s0, s1, s2, s3, s4, s5, s6, s7⟩ := hW; go_simp; simp [*]; done)⟩) hSs ?_
      try simp only [Act.put, List.setIfInBounds_toArray, List.set_cons_zero, List.set_cons_succ]
      refine wpAnyK_take (i := 6) (oi := ⟨some 21, _, _, _, _, _⟩) (v := .agg #[.int .i64 x.kind, .int .i64 x.level, .int .i64 x.n, .string x.name, .slice B x.alts.length ba, .slice C x.to.length ct]) rfl (by kernel_rfl) (by kernel_rfl) (by kernel_rfl) (by kernel_rfl) (fun _ _ _ h => h) (.inl ⟨by kernel_rfl, fun W hW => by first | (obtain ⟨s0, s1, s2, s3, s4, s5, s6, s7⟩ := hW; go_simp; done) | (obtain ⟨s0, s1, s2, s3, s4, s5, s6, s7⟩ := hW; go_simp; omega) | (obtain ⟨s0, s1, s2, s3, s4, s5, s6, s7⟩ := hW; go_simp; simp [*]; done)⟩) hSs ?_
      try simp only [Act.put, List.setIfInBounds_toArray, List.set_cons_zero, List.set_cons_succ]
      refine wpAnyK_one (i := 7) rfl rfl (by kernel_rfl) (fun K hK => ?_)
      go_simp
      refine hK.out _ _ (fun _ => HS1.out) (fun hS1 => ?_)
      clear hK K hSs
      try simp only [Act.put, List.setIfInBounds_toArray, List.set_cons_zero, List.set_cons_succ]
      refine wpAnyK_one (i := 8) rfl rfl (by kernel_rfl) (fun K hK => ?_)
      refine wp_append_own _ (.tmp 16) (.tmp 22) 22 rfl (w.heap.size + 3) 43 i0 (.agg #[.int .i64 0, .int .i64 0, .int .i64 0, .string ⟨#[]⟩, .slice none 0 0, .slice none 0 0]) 6 88 Try.underlying22 hi0 hz0 hz1 hz2 rfl (by decide) (.slice Av i cv) i xs rfl HOW.out ⟨wr.heap.size, 0, none⟩ 1 1 [.int .i64 x.kind, .int .i64 x.level, .int .i64 x.n, .string x.name, .slice B x.alts.length ba, .slice C x.to.length ct] rfl rfl HNW.out (by simp [Value.oneCell']) (by unfold maxLen; omega) (by omega) (by show w.heap.size + 3 ≤ (wr.heap.push _).size; simp; omega) ?_
      intro v9 w9 hown9 hg9 hv9
      obtain ⟨g9, c9, rfl⟩ := own_sliceN hown9 (fun e => by have := (hv9.1 e).2; omega)
      have hS9 := HS9.out _ w9 hown9 hg9
      clear hv9
      obtain ⟨hSS, hn9, hf9, hb9⟩ := hS9
      refine hK.out _ _ (fun _ => hSS) (fun hS2 => ?_)
      clear hK K hS1
      try simp only [Act.put, List.setIfInBounds_toArray]
      refine wpAnyK_take (i := 9) (oi := ⟨some 24, _, _, _, _, _⟩) (v := .pointer (some ⟨w.heap.size + 2, 0, none⟩)) rfl (by kernel_rfl) (by kernel_rfl) (by kernel_rfl) (by kernel_rfl) (fun _ _ _ h => h) (.inl ⟨by kernel_rfl, fun W hW => by first | (obtain ⟨s0, s1, s2, s3, s4, s5, s6, s7⟩ := hW; go_simp; done) | (obtain ⟨s0, s1, s2, s3, s4, s5, s6, s7⟩ := hW; go_simp; omega) | (obtain ⟨s0, s1, s2, s3, s4, s5, s6, s7⟩ := hW; go_simp; simp [*]; done)⟩) hSS ?_
      try simp only [Act.put]
      refine wpAnyK_one (i := 10) rfl rfl (by kernel_rfl) (fun K hK => ?_)
      have n9 := hSS.1
      go_simp
      refine hK.out _ _ (fun h => absurd rfl h) (fun _ => ?_)
      clear hK K hS2
      try simp only [Act.put, List.setIfInBounds_toArray, List.set_cons_zero, List.set_cons_succ]
      refine wpAnyK_done (by kernel_rfl) ?_ _
      have HO9 := Lib.hid hown9
      have HN9 := Lib.hid hn9
      have HB9 := Lib.hid hb9
      clear hown9 hg9 hSS hn9 hf9 hb9 n9 HS0 HS1 HS9 HOW HNW q0
      go_wp2_with fail
      go_roundw
      case rel =>
        go_light
        obtain ⟨v0, v1, v2, v3, v4, v5, v6, v7⟩ := HV.out
        have hb9 := HB9.out
        have hb8 : Below (w.heap.size + 2) wr (w9.setCell ⟨w.heap.size + 2, 0, none⟩ (.slice (some ⟨g9, 0, none⟩) (i + 1) c9)) := (show Below (w.heap.size + 2) wr w9 from hb9.mono (Nat.le_succ _)).setCell (p := ⟨w.heap.size + 2, 0, none⟩) (Nat.le_refl _) _
        have hcl : ∀ q j, q < w.heap.size → (w9.setCell ⟨w.heap.size + 2, 0, none⟩ (.slice (some ⟨g9, 0, none⟩) (i + 1) c9)).cell? ⟨q, j, none⟩ = wr.cell? ⟨q, j, none⟩ := fun q j hq => hb8.cell (p := ⟨q, j, none⟩) (by show q < w.heap.size + 2; omega)
        refine ⟨i + 1, some ⟨g9, 0, none⟩, c9, xs ++ [.int .i64 x.kind, .int .i64 x.level, .int .i64 x.n, .string x.name, .slice B x.alts.length ba, .slice C x.to.length ct], by omega, by go_num, Lib.hid ⟨v0.below hb8 (by omega), v1.below hb8 (by omega), HN9.out.put0 _, ownsRow_setCell_below HO9.out (a := ⟨w.heap.size + 2, 0, none⟩) (by show w.heap.size + 2 < w.heap.size + 3; omega) _, ?_, v5.keep (fun q j hq _ => ⟨hcl q j (hX _ hq), hq⟩), v6.trans (hb8.mono (by omega)), Nat.le_trans v7 (hb8.size)⟩⟩
        rw [List.take_succ_eq_append_getElem hil]
        have hxe : x = l[i]'hil := by rw [HX.out, ndAt_lt hil]
        rw [← hxe]
        have h9 := (v4.keep (w' := w9.setCell ⟨w.heap.size + 2, 0, none⟩ (.slice (some ⟨g9, 0, none⟩) (i + 1) c9)) (Y := X) (fun q j hq _ => ⟨hcl q j (hX _ hq), hq⟩)).snoc (B := B) (C := C) (b := bb) (c := cc) (HI.out.keep (w' := w9.setCell ⟨w.heap.size + 2, 0, none⟩ (.slice (some ⟨g9, 0, none⟩) (i + 1) c9)) (Y := X) (fun q j hq _ => ⟨hcl q j (hX _ hq), hq⟩))
        rw [HBA.out, HCT.out]
        exact h9
      case measure => simp [intOf]; omega
    · have him : i = m := by omega
      subst him
      obtain ⟨v0, v1, v2, v3, v4, v5, v6, v7⟩ := hV.out
      obtain ⟨p0, p1⟩ := two_cells v2
      obtain ⟨r0, r1⟩ := two_cells v1
      have f0 := v1.frozen 0
      have f1 := v1.frozen 1
      have HV := Lib.hid hV.out
      clear v0 v1 v2 v3 v4 v5 v6 v7 hV
      go_wp2_with fail
      have hR9 := lies_put2 HV.out.2.1 (.slice Av i cv) (.int .i64 cap)
      obtain ⟨v0, v1, v2, v3, v4, v5, v6, v7⟩ := HV.out
      refine bodyPost_ret (res_net1 (p := 2) Try.results35 rfl hR9) rfl ⟨Av, cv, xs, rfl, ownsRow_setCell_below (ownsRow_setCell_below v3 (a := ⟨w.heap.size + 1, 0, none⟩) (by show w.heap.size + 1 < w.heap.size + 3; omega) _) (a := ⟨w.heap.size + 1, 1, none⟩) (by show w.heap.size + 1 < w.heap.size + 3; omega) _, ?_, (v6.setCell (p := ⟨w.heap.size + 1, 0, none⟩) (by show w.heap.size ≤ w.heap.size + 1; omega) _).setCell (p := ⟨w.heap.size + 1, 1, none⟩) (by show w.heap.size ≤ w.heap.size + 1; omega) _⟩
      rw [List.take_of_length_le (by have := HM.out; omega)] at v4
      exact (v4.keep (keep_set _ _ (fun h => by have := hX _ h; simp at this; omega))).keep (keep_set _ _ (fun h => by have := hX _ h; simp at this; omega))
end Lx
end Go.Proofs.Ytceblpjlklogpaa
namespace Go.Proofs.Ytceblpjlklogpaa
namespace Lx
def Nd.withTo (x : Nd) (t : List (Int × Int)) : Nd := { x with «to» := t }
theorem setNV_with (ns : List Nd) (p q : Int × Int) : setNV ns p q = ns.set p.1.toNat ((ndAt ns p.1.toNat).withTo ((ndAt ns p.1.toNat).to.set p.2.toNat q)) := rfl
end Lx
end Go.Proofs.Ytceblpjlklogpaa
namespace Go.Proofs.Ytceblpjlklogpaa
open Go Go.RowKit
namespace Lx
set_option maxRecDepth 100000
theorem toAt_get9 {l : List Nd} {i k : Nat} (hk : k < (ndAt l i).to.length) : toAt l ((i : Int), (k : Int)) = (ndAt l i).to[k]'hk := by
  simp [toAt, hk]
theorem port_eql (a b c d : Int) (U : World) : (binOp .eql 26 (.agg #[.int .i64 a, .int .i64 b]) (.agg #[.int .i64 c, .int .i64 d])).run Try.prog U = .ok (.bool ((a, b) == (c, d))) U := by
  by_cases e1 : a = c
  · subst e1
    by_cases e2 : b = d
    · subst e2
      go_simp
    · go_simp
      try simp [*]
  · go_simp
    try simp [*]
theorem port_neq (a b c d : Int) (U : World) : (binOp .neq 26 (.agg #[.int .i64 a, .int .i64 b]) (.agg #[.int .i64 c, .int .i64 d])).run Try.prog U = .ok (.bool (!((a, b) == (c, d)))) U := by
  by_cases e1 : a = c
  · subst e1
    by_cases e2 : b = d
    · subst e2
      go_simp
    · go_simp
      try simp [*]
  · go_simp
    try simp [*]
theorem res_port1 {fn : Func} {p : Tmp} (h : fn.results = #[.cell p 26]) {tmps : Array Value} {g : Nat} {a b : Value} {w : World} (hp : tmps.getD p undef = .pointer (some ⟨g, 0, none⟩)) (L : Lies w g 26 #[a, b]) :
    (results fn tmps).run Try.prog w = .ok (.agg #[a, b]) w := by
  have hl := run_loadVar_row (P := Try.prog) w g 26 26 #[a, b] (0, 0) _ L Try.underlying26 rfl (by kernel_rfl)
  have hp' : tmps[p]?.getD undef = .pointer (some ⟨g, 0, none⟩) := by simpa using hp
  simp only [results, h]
  simp [hp', asAddr, hl]
set_option maxHeartbeats 8000000 in
/-- Whether all of some ports are there. -/
theorem whas_any (l : List Nd) (A : Option Addr) (m c : Nat) (cap : Int) (ps : List (Int × Int)) (B : Option Addr) (n cb : Nat) (w : World) (hm : m = l.length) (hN : NdsIn w AnyB l A) (hn : n = ps.length) (hn2 : n ≤ 1000) (hP : ToIn w AnyB ps B) :
    Calls Try.prog 25 #[.agg #[.slice A m c, .int .i64 cap], .slice B n cb] w fun e w' => e = .returned (.bool (ps.all fun p => hasV l p)) ∧ Below w.heap.size w w' := by
  obtain ⟨w1, hw1⟩ : ∃ w1, w1 = (w.alloc (.cells #[.slice A m c, .int .i64 cap] 50)) := ⟨_, rfl⟩
  have hb : Below w.heap.size w w1 := by rw [hw1]; exact (Below.refl _ w).alloc (Nat.le_refl _) _
  have L : Lies w1 w.heap.size 50 #[.slice A m c, .int .i64 cap] := by rw [hw1]; exact Lies.new _ _ _
  have HL := Lib.hid L
  have HN := Lib.hid hN
  have HM := Lib.hid hm
  have HP := Lib.hid hP
  have HNN := Lib.hid hn
  clear hN hm hP hn L
  go_enter Try.func25, Try.ntmps25
  go_upto_region 1 with fail
  rw [← hw1]
  clear hw1
  go_wp2_with fail
  go_loopw [9] (fun y wr => ∃ i : Nat, i ≤ n ∧ y = .int .i64 i ∧ Hid ((ps.take i).all (fun p => hasV l p) = true) ∧ Below w1.heap.size w1 wr) (fun y _ => n - (intOf y).toNat)
  case atStart => exact ⟨0, Nat.zero_le _, rfl, Lib.hid (by simp), Below.refl _ _⟩
  case round =>
    obtain ⟨i, hi, rfl, hA, hbr⟩ := hrel
    have hww := hb.trans (hbr.mono hb.size)
    by_cases hlt : i < n
    · have hil : i < ps.length := by have := HNN.out; omega
      obtain ⟨g2, o2, ⟨rfl, _⟩, d0, d1⟩ := HP.out i hil
      replace d0 := (hww.cell (p := ⟨g2, o2 + i * 2, none⟩) (ncell_lt d0)).trans d0
      replace d1 := (hww.cell (p := ⟨g2, o2 + i * 2 + 1, none⟩) (ncell_lt d1)).trans d1
      obtain ⟨a, ha⟩ : ∃ a, a = (ps[i]'hil).1 := ⟨_, rfl⟩
      obtain ⟨b, hbb⟩ : ∃ b, b = (ps[i]'hil).2 := ⟨_, rfl⟩
      rw [← ha] at d0
      rw [← hbb] at d1
      have HQ : Hid (ps.take (i + 1) = ps.take i ++ [(a, b)]) := Lib.hid (by rw [List.take_succ_eq_append_getElem hil, ha, hbb])
      have HQ2 : Hid ((a, b) ∈ ps) := Lib.hid (by rw [ha, hbb]; exact List.getElem_mem hil)
      clear ha hbb
      obtain ⟨W, hW⟩ : ∃ W, W = wr.alloc (.cells #[.int .i64 a, .int .i64 b] 26) := ⟨_, rfl⟩
      have hbW : Below wr.heap.size wr W := by rw [hW]; exact (Below.refl _ wr).alloc (Nat.le_refl _) _
      have L0 : Lies W wr.heap.size 26 #[.int .i64 a, .int .i64 b] := by rw [hW]; exact Lies.new _ _ _
      have L1 := (HL.out.below hbr HL.out.lt).below hbW (by have := (HL.out.below hbr HL.out.lt).lt; omega)
      have q0 := Abv.cell (L0.cell 0)
      have q1 := Abv.cell (L0.cell 1)
      have q2 := Abv.cell (L1.cell 0)
      simp at q0 q1 q2
      have hwW := hww.trans (hbW.mono hww.size)
      have h1W := hbr.trans (hbW.mono hbr.size)
      have hno : Hid (hasV l (a, b) = false → (ps.all fun p => hasV l p) = false) := Lib.hid (fun h => by
        rw [List.all_eq_false]
        exact ⟨(a, b), HQ2.out, by rw [h]; simp⟩)
      go_upto_region 4 with fail
      rw [← hW]
      clear hW d0 d1 L0 L1
      by_cases k1 : a < 0
      · have j1 : decide (a < 0) = true := decide_eq_true k1
        refine region_calm (by kernel_rfl) (by kernel_rfl) ?_
        repeat (go_big_quiet_step (fail))
        refine wpQuiet_nil ?_
        rintro _ ⟨V, rfl⟩
        go_wp2_with fail
        go_ret
        exact ⟨nret_bool (hno.out (by rw [hasV]; exact decide_eq_false (by omega))).symm, hwW.trans (V.2.mono hwW.size)⟩
      · have j1 : decide (a < 0) = false := decide_eq_false k1
        by_cases k2 : (m : Int) ≤ a
        · have j2 : decide ((m : Int) ≤ a) = true := decide_eq_true k2
          refine region_calm (by kernel_rfl) (by kernel_rfl) ?_
          repeat (go_big_quiet_step (fail))
          refine wpQuiet_nil ?_
          rintro _ ⟨V, rfl⟩
          go_wp2_with fail
          go_ret
          exact ⟨nret_bool (hno.out (by rw [hasV]; exact decide_eq_false (by have := HM.out; omega))).symm, hwW.trans (V.2.mono hwW.size)⟩
        · have j2 : decide ((m : Int) ≤ a) = false := decide_eq_false k2
          by_cases k3 : b < 0
          · have j3 : decide (b < 0) = true := decide_eq_true k3
            refine region_calm (by kernel_rfl) (by kernel_rfl) ?_
            repeat (go_big_quiet_step (fail))
            refine wpQuiet_nil ?_
            rintro _ ⟨V, rfl⟩
            go_wp2_with fail
            go_ret
            exact ⟨nret_bool (hno.out (by rw [hasV]; exact decide_eq_false (by omega))).symm, hwW.trans (V.2.mono hwW.size)⟩
          · have j3 : decide (b < 0) = false := decide_eq_false k3
            obtain ⟨ia, rfl⟩ : ∃ i : Nat, a = (i : Int) := ⟨a.toNat, by omega⟩
            have hia : ia < l.length := by have := HM.out; omega
            obtain ⟨g, o, x, B9, bb, C, cc, hx, hA9, _, ⟨_, _, _, _, _, x5⟩, _⟩ := NdsIn.get HN.out ia hia
            subst hA9
            have z5 := Abv.cell ((hwW.cell (p := ⟨g, o + ia * 6 + 5, none⟩) (ncell_lt x5)).trans x5)
            have HX := Lib.hid hx
            have him : ia < m := by omega
            have j2n : decide (m ≤ ia) = false := decide_eq_false (by omega)
            obtain ⟨mt, hmt⟩ : ∃ mt, mt = x.to.length := ⟨_, rfl⟩
            rw [← hmt] at z5
            have HMT := Lib.hid hmt
            clear x5 hx k2 hmt
            by_cases k4 : (mt : Int) ≤ b
            · have j4 : decide ((mt : Int) ≤ b) = true := decide_eq_true k4
              refine region_calm (by kernel_rfl) (by kernel_rfl) ?_
              repeat (go_big_quiet_step (fail))
              refine wpQuiet_nil ?_
              rintro _ ⟨V, rfl⟩
              go_wp2_with fail
              go_ret
              exact ⟨nret_bool (hno.out (by rw [hasV, Int.toNat_natCast, ← HX.out, ← HMT.out]; exact decide_eq_false (by omega))).symm, hwW.trans (V.2.mono hwW.size)⟩
            · have j4 : decide ((mt : Int) ≤ b) = false := decide_eq_false k4
              refine region_calm (by kernel_rfl) (by kernel_rfl) ?_
              repeat (go_big_quiet_step (fail))
              refine wpQuiet_nil ?_
              rintro _ ⟨V, rfl⟩
              go_wp2_with fail
              go_roundw
              case rel =>
                go_light
                refine ⟨i + 1, by omega, by go_num, Lib.hid ?_, h1W.trans (V.2.mono h1W.size)⟩
                rw [HQ.out, List.all_append, hA.out, Bool.true_and]
                simp only [List.all_cons, List.all_nil, Bool.and_true]
                rw [hasV, Int.toNat_natCast, ← HX.out, ← HMT.out]
                exact decide_eq_true (by have := HM.out; omega)
              case measure => simp [intOf]; omega
    · have hin : i = n := by omega
      subst hin
      go_wp2_with fail
      go_ret
      have h9 := hA.out
      rw [List.take_of_length_le (by have := HNN.out; omega)] at h9
      exact ⟨nret_bool h9.symm, hww⟩
set_option maxHeartbeats 8000000 in
/-- What a port that is there is linked to. -/
theorem wpeer_any (l : List Nd) (A : Option Addr) (m c : Nat) (cap : Int) (p : Int × Int) (w : World) (hm : m = l.length) (hN : NdsIn w AnyB l A) (hp : hasV l p = true) :
    Calls Try.prog 26 #[.agg #[.slice A m c, .int .i64 cap], .agg #[.int .i64 p.1, .int .i64 p.2]] w fun e w' => e = .returned (.agg #[.int .i64 (toAt l p).1, .int .i64 (toAt l p).2]) ∧ Below w.heap.size w w' := by
  obtain ⟨a, b⟩ := p
  obtain ⟨p1, p2, p3, p4⟩ := (hasV_iff l (a, b)).1 hp
  simp only at p1 p2 p3 p4 ⊢
  obtain ⟨i, rfl⟩ : ∃ i : Nat, a = (i : Int) := ⟨a.toNat, by omega⟩
  obtain ⟨k, rfl⟩ : ∃ k : Nat, b = (k : Int) := ⟨b.toNat, by omega⟩
  simp only [Int.toNat_natCast] at p4
  have hil : i < l.length := by omega
  have hkl : k < (ndAt l i).to.length := by omega
  obtain ⟨q, hq⟩ : ∃ q, q = toAt l ((i : Int), (k : Int)) := ⟨_, rfl⟩
  rw [← hq]
  rw [toAt_get9 hkl] at hq
  obtain ⟨w1, hw1⟩ : ∃ w1, w1 = (((w.alloc (.cells #[.slice A m c, .int .i64 cap] 50)).alloc (.cells #[.int .i64 i, .int .i64 k] 26)).alloc (.cells #[.int .i64 0, .int .i64 0] 26)) := ⟨_, rfl⟩
  have hb : Below w.heap.size w w1 := by rw [hw1]; exact (((Below.refl _ w).alloc (Nat.le_refl _) _).alloc (by simp) _).alloc (by simp; omega) _
  have L0 : Lies w1 w.heap.size 50 #[.slice A m c, .int .i64 cap] := by rw [hw1]; exact ((Lies.new _ _ _).old _).old _
  have L1 : Lies w1 (w.heap.size + 1) 26 #[.int .i64 i, .int .i64 k] := by rw [hw1]; exact Lies.old (by simpa using Lies.new (w.alloc (.cells #[.slice A m c, .int .i64 cap] 50)) 26 #[.int .i64 i, .int .i64 k]) _
  have L2 : Lies w1 (w.heap.size + 2) 26 #[.int .i64 0, .int .i64 0] := by rw [hw1]; simpa using Lies.new ((w.alloc (.cells #[.slice A m c, .int .i64 cap] 50)).alloc (.cells #[.int .i64 i, .int .i64 k] 26)) 26 #[.int .i64 0, .int .i64 0]
  obtain ⟨g, o, x, B, bb, C, cc, hx, rfl, _, ⟨_, _, _, _, _, x5⟩, hI⟩ := NdsIn.get hN i hil
  have hkx : k < x.to.length := by rw [hx]; exact hkl
  obtain ⟨g2, o2, ⟨rfl, _⟩, d0, d1⟩ := hI.2.2 k hkx
  have e9 : q = x.to[k]'hkx := by rw [hq]; simp only [hx]
  rw [← e9] at d0 d1
  replace x5 := (hb.cell (p := ⟨g, o + i * 6 + 5, none⟩) (ncell_lt x5)).trans x5
  replace d0 := (hb.cell (p := ⟨g2, o2 + k * 2, none⟩) (ncell_lt d0)).trans d0
  replace d1 := (hb.cell (p := ⟨g2, o2 + k * 2 + 1, none⟩) (ncell_lt d1)).trans d1
  obtain ⟨mt, hmt⟩ : ∃ mt, mt = x.to.length := ⟨_, rfl⟩
  have hkm : k < mt := by omega
  have him : i < m := by omega
  rw [← hmt] at x5
  obtain ⟨ct, hct⟩ : ∃ ct, ct = capN mt cc := ⟨_, rfl⟩
  have hmc : mt ≤ ct := by rw [hct]; exact le_capN _ _
  rw [← hct] at x5
  obtain ⟨n0, n1⟩ := two_cells L0
  obtain ⟨y0, y1⟩ := two_cells L1
  obtain ⟨r0, r1⟩ := two_cells L2
  have f0 := L2.frozen 0
  have f1 := L2.frozen 1
  have HL2 := Lib.hid L2
  have HB := Lib.hid hb
  clear hN hm hp p1 p2 p3 p4 hq hx hI e9 hmt hct hkx hkl hil L0 L1 L2 hb
  obtain ⟨qa, qb⟩ := q
  simp only at d0 d1 ⊢
  go_enter Try.func26, Try.ntmps26
  go_upto_region 1 with fail
  rw [← hw1]
  clear hw1
  go_region
  obtain ⟨V8, hV8⟩ : ∃ V, V = ((w1.setCell ⟨w.heap.size + 2, 0, none⟩ (.int .i64 qa)).setCell ⟨w.heap.size + 2, 1, none⟩ (.int .i64 qb)).drew := ⟨_, rfl⟩
  have hR9 : Lies V8 (w.heap.size + 2) 26 #[.int .i64 qa, .int .i64 qb] := by rw [hV8]; exact (lies_put2 HL2.out (.int .i64 qa) (.int .i64 qb)).drew
  have hb9 : Below w.heap.size w V8 := by rw [hV8]; exact ((HB.out.setCell (p := ⟨w.heap.size + 2, 0, none⟩) (by show w.heap.size ≤ w.heap.size + 2; omega) _).setCell (p := ⟨w.heap.size + 2, 1, none⟩) (by show w.heap.size ≤ w.heap.size + 2; omega) _).drew
  rw [← hV8]
  clear hV8 d0 d1 x5 n0 n1 y0 y1 r0 r1 f0 f1
  go_wp2_with fail
  exact bodyPost_ret (res_port1 (p := 4) Try.results26 rfl hR9) rfl ⟨rfl, hb9⟩
end Lx
end Go.Proofs.Ytceblpjlklogpaa
namespace Go.Proofs.Ytceblpjlklogpaa
open Go Go.RowKit
namespace Lx
set_option maxRecDepth 100000
theorem to_one {W : World} {g : Nat} {a b : Int} {t : TypeId} (h : Lies W g t #[.int .i64 a, .int .i64 b]) : ToIn W AnyB [(a, b)] (some ⟨g, 0, none⟩) := fun j hj => by
  have e : j = 0 := by simp at hj; omega
  subst e
  exact ⟨g, 0, ⟨rfl, trivial⟩, h.cell 0, h.cell 1⟩
theorem to_two {W : World} {g : Nat} {a b c d : Int} {t : TypeId} (h : Lies W g t #[.int .i64 a, .int .i64 b, .int .i64 c, .int .i64 d]) : ToIn W AnyB [(a, b), (c, d)] (some ⟨g, 0, none⟩) := fun j hj => by
  rcases (by simp at hj; omega : j = 0 ∨ j = 1) with rfl | rfl
  · exact ⟨g, 0, ⟨rfl, trivial⟩, h.cell 0, h.cell 1⟩
  · exact ⟨g, 0, ⟨rfl, trivial⟩, h.cell 2, h.cell 3⟩
theorem res_port2 {fn : Func} {p q : Tmp} (h : fn.results = #[.cell p 26, .tmp q]) {tmps : Array Value} {g : Nat} {a b : Value} {w : World} (hp : tmps.getD p undef = .pointer (some ⟨g, 0, none⟩)) (L : Lies w g 26 #[a, b]) :
    (results fn tmps).run Try.prog w = .ok (.tuple #[.agg #[a, b], tmps.getD q undef]) w := by
  have hl := run_loadVar_row (P := Try.prog) w g 26 26 #[a, b] (0, 0) _ L Try.underlying26 rfl (by kernel_rfl)
  have hp' : tmps[p]?.getD undef = .pointer (some ⟨g, 0, none⟩) := by simpa using hp
  simp only [results, h]
  simp [hp', asAddr, hl]
set_option maxHeartbeats 8000000 in
/-- Whether two ports are there, and are two. -/
theorem wboth_any (l : List Nd) (A : Option Addr) (m c : Nat) (cap : Int) (p q : Int × Int) (w : World) (hm : m = l.length) (hN : NdsIn w AnyB l A) :
    Calls Try.prog 29 #[.agg #[.slice A m c, .int .i64 cap], .agg #[.int .i64 p.1, .int .i64 p.2], .agg #[.int .i64 q.1, .int .i64 q.2]] w fun e w' => e = .returned (.bool (!(p == q) && (hasV l p && hasV l q))) ∧ Below w.heap.size w w' := by
  obtain ⟨a, b⟩ := p
  obtain ⟨a2, b2⟩ := q
  simp only
  obtain ⟨w1, hw1⟩ : ∃ w1, w1 = (((w.alloc (.cells #[.slice A m c, .int .i64 cap] 50)).alloc (.cells #[.int .i64 a, .int .i64 b] 26)).alloc (.cells #[.int .i64 a2, .int .i64 b2] 26)) := ⟨_, rfl⟩
  have hb : Below w.heap.size w w1 := by rw [hw1]; exact (((Below.refl _ w).alloc (Nat.le_refl _) _).alloc (by simp) _).alloc (by simp; omega) _
  have L0 : Lies w1 w.heap.size 50 #[.slice A m c, .int .i64 cap] := by rw [hw1]; exact ((Lies.new _ _ _).old _).old _
  have L1 : Lies w1 (w.heap.size + 1) 26 #[.int .i64 a, .int .i64 b] := by rw [hw1]; exact Lies.old (by simpa using Lies.new (w.alloc (.cells #[.slice A m c, .int .i64 cap] 50)) 26 #[.int .i64 a, .int .i64 b]) _
  have L2 : Lies w1 (w.heap.size + 2) 26 #[.int .i64 a2, .int .i64 b2] := by rw [hw1]; simpa using Lies.new ((w.alloc (.cells #[.slice A m c, .int .i64 cap] 50)).alloc (.cells #[.int .i64 a, .int .i64 b] 26)) 26 #[.int .i64 a2, .int .i64 b2]
  obtain ⟨n0, n1⟩ := two_cells L0
  obtain ⟨y0, y1⟩ := two_cells L1
  obtain ⟨z0, z1⟩ := two_cells L2
  have HB := Lib.hid hb
  have hq := port_neq a b a2 b2
  have L3 : Lies (w1.alloc (.cells #[.int .i64 a, .int .i64 b, .int .i64 a2, .int .i64 b2] 26)) w1.heap.size 26 #[.int .i64 a, .int .i64 b, .int .i64 a2, .int .i64 b2] := Lies.new _ _ _
  have hb3 : Below w1.heap.size w1 (w1.alloc (.cells #[.int .i64 a, .int .i64 b, .int .i64 a2, .int .i64 b2] 26)) := (Below.refl _ w1).alloc (Nat.le_refl _) _
  have HC := Lib.hid (whas_any l A m c cap [(a, b), (a2, b2)] (some ⟨w1.heap.size, 0, none⟩) 2 2 (w1.alloc (.cells #[.int .i64 a, .int .i64 b, .int .i64 a2, .int .i64 b2] 26)) hm ((hN.below hb (Nat.le_refl _)).below hb3 (Nat.le_refl _)) rfl (by omega) (to_two L3))
  have HB3 := Lib.hid (hb.trans (hb3.mono hb.size))
  obtain ⟨β, hβ⟩ : ∃ β, β = (((a, b) : Int × Int) == (a2, b2)) := ⟨_, rfl⟩
  rw [← hβ] at hq ⊢
  simp only [List.all_cons, List.all_nil, Bool.and_true] at HC
  obtain ⟨γ, hγ⟩ : ∃ γ, γ = (hasV l (a, b) && hasV l (a2, b2)) := ⟨_, rfl⟩
  rw [← hγ] at HC ⊢
  clear hN hm hβ hγ L0 L1 L2 L3 hb hb3
  cases β with
  | true =>
    go_enter Try.func29, Try.ntmps29
    go_upto_region 1 with fail
    rw [← hw1]
    clear hw1
    go_wp2_with fail
    go_ret
    exact ⟨rfl, HB.out⟩
  | false =>
    go_enter Try.func29, Try.ntmps29
    go_upto_region 1 with fail
    rw [← hw1]
    clear hw1
    go_wp2_with fail
    refine HC.out.mono ?_
    rintro e w4 ⟨rfl, hb4⟩
    go_wp2_with fail
    go_ret
    exact ⟨by simp, HB3.out.trans (hb4.mono HB3.out.size)⟩
set_option maxHeartbeats 8000000 in
theorem wPeer_any (l : List Nd) (A : Option Addr) (m c : Nat) (cap : Int) (p : Int × Int) (w : World) (hm : m = l.length) (hN : NdsIn w AnyB l A) :
    Calls Try.prog 10 #[.agg #[.slice A m c, .int .i64 cap], .agg #[.int .i64 p.1, .int .i64 p.2]] w fun e w' => e = .returned (.tuple #[.agg #[.int .i64 (peerNV l p).1.1, .int .i64 (peerNV l p).1.2], .int .i64 (peerNV l p).2]) ∧ Below w.heap.size w w' := by
  obtain ⟨a, b⟩ := p
  simp only
  obtain ⟨w1, hw1⟩ : ∃ w1, w1 = (((w.alloc (.cells #[.slice A m c, .int .i64 cap] 24)).alloc (.cells #[.int .i64 a, .int .i64 b] 26)).alloc (.cells #[.int .i64 0, .int .i64 0] 26)) := ⟨_, rfl⟩
  have hb : Below w.heap.size w w1 := by rw [hw1]; exact (((Below.refl _ w).alloc (Nat.le_refl _) _).alloc (by simp) _).alloc (by simp; omega) _
  have hs1 : w1.heap.size = w.heap.size + 3 := by rw [hw1]; simp
  have L0 : Lies w1 w.heap.size 24 #[.slice A m c, .int .i64 cap] := by rw [hw1]; exact ((Lies.new _ _ _).old _).old _
  have L1 : Lies w1 (w.heap.size + 1) 26 #[.int .i64 a, .int .i64 b] := by rw [hw1]; exact Lies.old (by simpa using Lies.new (w.alloc (.cells #[.slice A m c, .int .i64 cap] 24)) 26 #[.int .i64 a, .int .i64 b]) _
  have L2 : Lies w1 (w.heap.size + 2) 26 #[.int .i64 0, .int .i64 0] := by rw [hw1]; simpa using Lies.new ((w.alloc (.cells #[.slice A m c, .int .i64 cap] 24)).alloc (.cells #[.int .i64 a, .int .i64 b] 26)) 26 #[.int .i64 0, .int .i64 0]
  obtain ⟨n0, n1⟩ := two_cells L0
  obtain ⟨W, hW⟩ : ∃ W, W = w1.alloc (.cells #[.slice A m c, .int .i64 cap] 50) := ⟨_, rfl⟩
  have hbW : Below w1.heap.size w1 W := by rw [hW]; exact (Below.refl _ w1).alloc (Nat.le_refl _) _
  have LA : Lies W (w.heap.size + 3) 50 #[.slice A m c, .int .i64 cap] := by rw [hW, ← hs1]; exact Lies.new _ _ _
  have L1W := L1.below hbW L1.lt
  have L2W := L2.below hbW L2.lt
  have hwW := hb.trans (hbW.mono hb.size)
  have LP : Lies (W.alloc (.cells #[.int .i64 a, .int .i64 b] 26)) W.heap.size 26 #[.int .i64 a, .int .i64 b] := Lies.new _ _ _
  have hbP : Below W.heap.size W (W.alloc (.cells #[.int .i64 a, .int .i64 b] 26)) := (Below.refl _ W).alloc (Nat.le_refl _) _
  have hwP := hwW.trans (hbP.mono hwW.size)
  have HC := Lib.hid (whas_any l A m c cap [(a, b)] (some ⟨W.heap.size, 0, none⟩) 1 1 (W.alloc (.cells #[.int .i64 a, .int .i64 b] 26)) hm (hN.below hwP (Nat.le_refl _)) rfl (by omega) (to_one LP))
  simp only [List.all_cons, List.all_nil, Bool.and_true] at HC
  have HN := Lib.hid hN
  have HM := Lib.hid hm
  have HL1 := Lib.hid (L1W.below hbP L1W.lt)
  have HL2 := Lib.hid (L2W.below hbP L2W.lt)
  have HLA := Lib.hid (LA.below hbP LA.lt)
  have HBP := Lib.hid hwP
  obtain ⟨pa, hpa⟩ : ∃ q, q = (peerNV l (a, b)).1.1 := ⟨_, rfl⟩
  obtain ⟨pb, hpb⟩ : ∃ q, q = (peerNV l (a, b)).1.2 := ⟨_, rfl⟩
  obtain ⟨pe, hpe⟩ : ∃ q, q = (peerNV l (a, b)).2 := ⟨_, rfl⟩
  rw [← hpa, ← hpb, ← hpe]
  have HPA := Lib.hid hpa
  have HPB := Lib.hid hpb
  have HPE := Lib.hid hpe
  obtain ⟨y0, y1⟩ := two_cells L1W
  obtain ⟨v0, v1⟩ := two_cells LA
  clear hN hm L0 L1 L2 L1W L2W LA LP hbW hbP hwW hwP hpa hpb hpe
  go_enter Try.func10, Try.ntmps10
  go_upto_region 1 with fail
  rw [← hw1]
  clear hw1
  go_upto_region 2 with fail
  rw [← hW]
  clear hW n0 n1
  go_wp2_with fail
  refine HC.out.mono ?_
  rintro e V ⟨rfl, hb4⟩
  clear HC y0 y1 v0 v1
  replace HL1 := Lib.hid (HL1.out.below hb4 HL1.out.lt)
  replace HL2 := Lib.hid (HL2.out.below hb4 HL2.out.lt)
  replace HLA := Lib.hid (HLA.out.below hb4 HLA.out.lt)
  replace HBP := Lib.hid (HBP.out.trans (hb4.mono HBP.out.size))
  clear hb4
  cases hh : hasV l (a, b) with
  | false =>
    have f0 := HL2.out.frozen 0
    have f1 := HL2.out.frozen 1
    obtain ⟨r0, r1⟩ := two_cells HL2.out
    have e9 : peerNV l (a, b) = ((0, 0), 130) := by rw [peerNV, if_neg (by rw [hh]; simp)]
    have ha : pa = 0 := by rw [HPA.out, e9]
    have hb9 : pb = 0 := by rw [HPB.out, e9]
    have he : pe = 130 := by rw [HPE.out, e9]
    subst ha hb9 he
    clear hh e9
    go_wp2_with fail
    have hR9 := lies_put2 HL2.out (.int .i64 0) (.int .i64 0)
    refine bodyPost_ret (res_port2 (p := 4) Try.results10 rfl hR9) rfl ⟨rfl, (HBP.out.setCell (p := ⟨w.heap.size + 2, 0, none⟩) (by show w.heap.size ≤ w.heap.size + 2; omega) _).setCell (p := ⟨w.heap.size + 2, 1, none⟩) (by show w.heap.size ≤ w.heap.size + 2; omega) _⟩
  | true =>
    have e9 : peerNV l (a, b) = (toAt l (a, b), 0) := peer_ok hh
    have HPP := Lib.hid (wpeer_any l A m c cap (a, b) V HM.out (HN.out.below HBP.out (Nat.le_refl _)) hh)
    rw [show (toAt l (a, b)).1 = pa by rw [HPA.out, e9], show (toAt l (a, b)).2 = pb by rw [HPB.out, e9]] at HPP
    have he : pe = 0 := by rw [HPE.out, e9]
    subst he
    obtain ⟨y0, y1⟩ := two_cells HL1.out
    obtain ⟨v0, v1⟩ := two_cells HLA.out
    clear hh e9
    go_wp2_with fail
    refine HPP.out.mono ?_
    rintro e V2 ⟨rfl, hb5⟩
    replace HL2 := Lib.hid (HL2.out.below hb5 HL2.out.lt)
    replace HBP := Lib.hid (HBP.out.trans (hb5.mono HBP.out.size))
    have f0 := HL2.out.frozen 0
    have f1 := HL2.out.frozen 1
    obtain ⟨r0, r1⟩ := two_cells HL2.out
    clear y0 y1 v0 v1 HPP
    go_wp2_with fail
    have hR9 := lies_put2 HL2.out (.int .i64 pa) (.int .i64 pb)
    refine bodyPost_ret (res_port2 (p := 4) Try.results10 rfl hR9) rfl ⟨rfl, (HBP.out.setCell (p := ⟨w.heap.size + 2, 0, none⟩) (by show w.heap.size ≤ w.heap.size + 2; omega) _).setCell (p := ⟨w.heap.size + 2, 1, none⟩) (by show w.heap.size ≤ w.heap.size + 2; omega) _⟩
end Lx
end Go.Proofs.Ytceblpjlklogpaa
