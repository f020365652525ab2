/-
  Walk of the document's Copy: a row of nodes of the call's own, whose rows are the elder ones.
-/
import Derived.Test.YtceblpjlklogpaaDoorC5
import Derived.Test.YtceblpjlklogpaaDoorHeldK
namespace Go.Proofs.YtceblpjlklogpaaDoor
open Go Go.RowKit
namespace Lx
set_option maxRecDepth 100000
theorem Lies.put0 {w : World} {g : Nat} {t : TypeId} {a b : Value} (h : Lies w g t #[a, b]) (u : Value) : Lies (w.setCell ⟨g, 0, none⟩ u) g t #[u, b] := by
  have := h.put 0 u
  simpa using this
theorem lies_grown9 {w w' : World} {g : Nat} {t : TypeId} {cs : Array Value} {row : Option Nat} (h : Lies w g t cs) (hg : w.grownBy w' row) (hr : row ≠ some g) : Lies w' g t cs := (hg.block g h.lt (fun e => hr e.symm)).trans h
set_option maxHeartbeats 8000000 in
theorem rcopy_any (l : List Nd) (A : Option Addr) (m c : Nat) (cap : Int) (w : World) (hm : m = l.length) (hm2 : m ≤ 100000) (X : Nat → Prop) (hX : ∀ g, X g → g < w.heap.size) (hN : NdsIn w X l A) :
    Calls Tryd.prog 20 #[.agg #[.slice A m c, .int .i64 cap]] w fun e w' => ∃ Av cv xs, e = .returned (.agg #[.slice Av m cv, .int .i64 cap]) ∧ w'.ownsRow (w.heap.size + 3) 28 6 (.slice Av m cv) m xs ∧ RowNd w' X l xs ∧ Below w.heap.size w w' := by
  obtain ⟨w1, hw1⟩ : ∃ w1, w1 = ((w.alloc (.cells #[.slice A m c, .int .i64 cap] 24)).alloc (.cells #[.slice none 0 0, .int .i64 0] 24)) := ⟨_, rfl⟩
  obtain ⟨W, hW⟩ : ∃ W, W = w1.alloc (.cells #[.slice none 0 0, .int .i64 cap] 24) := ⟨_, rfl⟩
  have hs1 : w1.heap.size = w.heap.size + 2 := by rw [hw1]; simp
  have hb1 : Below w.heap.size w w1 := by rw [hw1]; exact ((Below.refl _ w).alloc (Nat.le_refl _) _).alloc (by simp) _
  have hbW : Below w1.heap.size w1 W := by rw [hW]; exact (Below.refl _ w1).alloc (Nat.le_refl _) _
  have hb := hb1.trans (hbW.mono hb1.size)
  have hWs : W.heap.size = w.heap.size + 3 := by rw [hW]; simp [hs1]
  have L0 : Lies w1 w.heap.size 24 #[.slice A m c, .int .i64 cap] := by rw [hw1]; exact (Lies.new _ _ _).old _
  have L1 : Lies w1 (w.heap.size + 1) 24 #[.slice none 0 0, .int .i64 0] := by rw [hw1]; simpa using Lies.new (w.alloc (.cells #[.slice A m c, .int .i64 cap] 24)) 24 #[.slice none 0 0, .int .i64 0]
  have L2 : Lies W (w.heap.size + 2) 24 #[.slice none 0 0, .int .i64 cap] := by rw [hW, ← hs1]; exact Lies.new _ _ _
  obtain ⟨n0, n1⟩ := two_cells L0
  have HL0 := Lib.hid (L0.below hbW L0.lt)
  have HL1 := Lib.hid (L1.below hbW L1.lt)
  have HL2 := Lib.hid L2
  have HB := Lib.hid hb
  have hNW : NdsIn W X l A := hN.keep (fun b j hX hlt => ⟨hb.cell (p := ⟨b, j, none⟩) hlt, hX⟩)
  have HN := Lib.hid hNW
  have HM := Lib.hid hm
  obtain ⟨i0, hi0, hz0, hz1, hz2⟩ := info_partsN infoNd
  clear hN hm L0 L1 L2 hb hb1 hbW hNW
  go_enter Tryd.func20, Tryd.ntmps20
  go_upto_region 1 with fail
  rw [← hw1]
  clear hw1
  go_upto_region 2 with fail
  rw [← hW]
  clear hW n0 n1 hs1
  go_wp2_with fail
  go_loopw [4] (fun y wr => ∃ (i : Nat) (Av : Option Addr) (cv : Nat) (xs : List Value), i ≤ m ∧ y = .int .i64 i ∧ Hid (Lies wr w.heap.size 24 #[.slice A m c, .int .i64 cap] ∧ Lies wr (w.heap.size + 1) 24 #[.slice none 0 0, .int .i64 0] ∧ Lies wr (w.heap.size + 2) 24 #[.slice Av i cv, .int .i64 cap] ∧ wr.ownsRow (w.heap.size + 3) 28 6 (.slice Av i cv) i xs ∧ RowNd wr X (l.take i) xs ∧ NdsIn wr X l A ∧ Below w.heap.size w wr ∧ w.heap.size + 3 ≤ wr.heap.size)) (fun y _ => m - (intOf y).toNat)
  case atStart => exact ⟨0, none, 0, [], Nat.zero_le _, rfl, Lib.hid ⟨HL0.out, HL1.out, HL2.out, ⟨rfl, .inl ⟨rfl, rfl⟩⟩, by simpa using RowNd.nil, HN.out, HB.out, by omega⟩⟩
  case round =>
    obtain ⟨i, Av, cv, xs, hi, rfl, hV⟩ := hrel
    have h0 := hV.out.1
    have q0 := h0.cell 0
    simp at q0
    by_cases hlt : i < m
    · have hil : i < l.length := by have := HM.out; omega
      obtain ⟨g, o, x, B, bb, C, cc, hx, rfl, hgX, ⟨x0, x1, x2, x3, x4, x5⟩, hI⟩ := NdsIn.get hV.out.2.2.2.2.2.1 i hil
      obtain ⟨ba, hba⟩ : ∃ q, q = capN x.alts.length bb := ⟨_, rfl⟩
      obtain ⟨ct, hct⟩ : ∃ q, q = capN x.to.length cc := ⟨_, rfl⟩
      rw [← hba] at x4
      rw [← hct] at x5
      have HBA := Lib.hid hba
      have HCT := Lib.hid hct
      have HX := Lib.hid hx
      have HI := Lib.hid hI
      have h2 := hV.out.2.2.1
      have q2 := h2.cell 0
      simp at q2
      have hsz := hV.out.2.2.2.2.2.2.2
      obtain ⟨T, hT⟩ : ∃ T, T = wr.drew.alloc (.cells #[.int .i64 x.kind, .int .i64 x.level, .int .i64 x.n, .string x.name, .slice B x.alts.length ba, .slice C x.to.length ct] 28) := ⟨_, rfl⟩
      have hbT : Below wr.heap.size wr T := by rw [hT]; exact (Below.refl _ wr).drew.alloc (Nat.le_refl _) _
      have hTs : T.heap.size = wr.heap.size + 1 := by rw [hT]; show (wr.heap.push _).size = _; simp
      have HS0 : Hid ((fun V => V.cell? ⟨w.heap.size + 2, 0, none⟩ = some (.slice Av i cv) ∧ V.cell? ⟨w.heap.size, 0, none⟩ = some (.slice (some ⟨g, o, none⟩) m c) ∧ V.cell? ⟨g, o + i * 6, none⟩ = some (.int .i64 x.kind) ∧ V.cell? ⟨g, o + i * 6 + 1, none⟩ = some (.int .i64 x.level) ∧ V.cell? ⟨g, o + i * 6 + 2, none⟩ = some (.int .i64 x.n) ∧ V.cell? ⟨g, o + i * 6 + 3, none⟩ = some (.string x.name) ∧ V.cell? ⟨g, o + i * 6 + 4, none⟩ = some (.slice B x.alts.length ba) ∧ V.cell? ⟨g, o + i * 6 + 5, none⟩ = some (.slice C x.to.length ct)) wr.drew) := Lib.hid ⟨q2, q0, x0, x1, x2, x3, x4, x5⟩
      have hkeep : ∀ V : World, (∀ (q j : Nat), q < wr.heap.size → V.cell? ⟨q, j, none⟩ = wr.cell? ⟨q, j, none⟩) → (fun V => V.cell? ⟨w.heap.size + 2, 0, none⟩ = some (.slice Av i cv) ∧ V.cell? ⟨w.heap.size, 0, none⟩ = some (.slice (some ⟨g, o, none⟩) m c) ∧ V.cell? ⟨g, o + i * 6, none⟩ = some (.int .i64 x.kind) ∧ V.cell? ⟨g, o + i * 6 + 1, none⟩ = some (.int .i64 x.level) ∧ V.cell? ⟨g, o + i * 6 + 2, none⟩ = some (.int .i64 x.n) ∧ V.cell? ⟨g, o + i * 6 + 3, none⟩ = some (.string x.name) ∧ V.cell? ⟨g, o + i * 6 + 4, none⟩ = some (.slice B x.alts.length ba) ∧ V.cell? ⟨g, o + i * 6 + 5, none⟩ = some (.slice C x.to.length ct)) V := fun V hV9 => by
        have hgl := ncell_lt x0
        exact ⟨(hV9 _ _ h2.lt).trans q2, (hV9 _ _ h0.lt).trans q0, (hV9 _ _ hgl).trans x0, (hV9 _ _ hgl).trans x1, (hV9 _ _ hgl).trans x2, (hV9 _ _ hgl).trans x3, (hV9 _ _ hgl).trans x4, (hV9 _ _ hgl).trans x5⟩
      have HS1 : Hid ((fun V => V.cell? ⟨w.heap.size + 2, 0, none⟩ = some (.slice Av i cv) ∧ V.cell? ⟨w.heap.size, 0, none⟩ = some (.slice (some ⟨g, o, none⟩) m c) ∧ V.cell? ⟨g, o + i * 6, none⟩ = some (.int .i64 x.kind) ∧ V.cell? ⟨g, o + i * 6 + 1, none⟩ = some (.int .i64 x.level) ∧ V.cell? ⟨g, o + i * 6 + 2, none⟩ = some (.int .i64 x.n) ∧ V.cell? ⟨g, o + i * 6 + 3, none⟩ = some (.string x.name) ∧ V.cell? ⟨g, o + i * 6 + 4, none⟩ = some (.slice B x.alts.length ba) ∧ V.cell? ⟨g, o + i * 6 + 5, none⟩ = some (.slice C x.to.length ct)) (wr.drew.alloc (.cells #[.int .i64 x.kind, .int .i64 x.level, .int .i64 x.n, .string x.name, .slice B x.alts.length ba, .slice C x.to.length ct] 28))) := Lib.hid (by rw [← hT]; exact hkeep T (fun q j hq => hbT.cell (p := ⟨q, j, none⟩) hq))
      have HOW : Hid ((wr.drew.alloc (.cells #[.int .i64 x.kind, .int .i64 x.level, .int .i64 x.n, .string x.name, .slice B x.alts.length ba, .slice C x.to.length ct] 28)).ownsRow (w.heap.size + 3) 28 6 (.slice Av i cv) i xs) := Lib.hid (World.ownsRow.alloc hV.out.2.2.2.1 _)
      have HNW : Hid (∀ j u, ([.int .i64 x.kind, .int .i64 x.level, .int .i64 x.n, .string x.name, .slice B x.alts.length ba, .slice C x.to.length ct] : List Value)[j]? = some u → (wr.drew.alloc (.cells #[.int .i64 x.kind, .int .i64 x.level, .int .i64 x.n, .string x.name, .slice B x.alts.length ba, .slice C x.to.length ct] 28)).cell? ((⟨wr.heap.size, 0, none⟩ : Addr).add j) = some u) := Lib.hid fun j u hu => by
        have hL : Lies (wr.drew.alloc (.cells #[.int .i64 x.kind, .int .i64 x.level, .int .i64 x.n, .string x.name, .slice B x.alts.length ba, .slice C x.to.length ct] 28)) wr.heap.size 28 #[.int .i64 x.kind, .int .i64 x.level, .int .i64 x.n, .string x.name, .slice B x.alts.length ba, .slice C x.to.length ct] := Lies.new wr.drew _ _
        rw [nadd, Nat.zero_add, hL.cell]
        simpa using hu
      have HS9 : Hid (∀ v9 w9, w9.ownsRow (w.heap.size + 3) 28 6 v9 (i + 1) (xs ++ [.int .i64 x.kind, .int .i64 x.level, .int .i64 x.n, .string x.name, .slice B x.alts.length ba, .slice C x.to.length ct]) → (wr.drew.alloc (.cells #[.int .i64 x.kind, .int .i64 x.level, .int .i64 x.n, .string x.name, .slice B x.alts.length ba, .slice C x.to.length ct] 28)).grownBy w9 (Value.slice Av i cv).ownBlock → (fun V => V.cell? ⟨w.heap.size + 2, 0, none⟩ = some (.slice Av i cv) ∧ V.cell? ⟨w.heap.size, 0, none⟩ = some (.slice (some ⟨g, o, none⟩) m c) ∧ V.cell? ⟨g, o + i * 6, none⟩ = some (.int .i64 x.kind) ∧ V.cell? ⟨g, o + i * 6 + 1, none⟩ = some (.int .i64 x.level) ∧ V.cell? ⟨g, o + i * 6 + 2, none⟩ = some (.int .i64 x.n) ∧ V.cell? ⟨g, o + i * 6 + 3, none⟩ = some (.string x.name) ∧ V.cell? ⟨g, o + i * 6 + 4, none⟩ = some (.slice B x.alts.length ba) ∧ V.cell? ⟨g, o + i * 6 + 5, none⟩ = some (.slice C x.to.length ct)) w9 ∧ Lies w9 (w.heap.size + 2) 24 #[.slice Av i cv, .int .i64 cap] ∧ w9.frozen? ⟨w.heap.size + 2, 0, none⟩ = false ∧ Below (w.heap.size + 3) wr w9) := Lib.hid fun v9 w9 _ hg => by
        rw [← hT] at hg
        have hlow : ∀ q, q < w.heap.size + 3 → w9.heap[q]? = wr.heap[q]? := fun q hq => by
          have h9 : (Value.slice Av i cv).ownBlock ≠ some q := fun e => by
            have := (hV.out.2.2.2.1.lt q e).1
            omega
          exact (hg.block q (by omega) (fun e => h9 e.symm)).trans (hbT.block q (by omega))
        have hb9 : Below (w.heap.size + 3) wr w9 := by
          have := (hbT.mono (by omega : w.heap.size + 3 ≤ wr.heap.size)).grown hg (by omega) (fun q e => (hV.out.2.2.2.1.lt q e).1)
          exact this
        have hL9 : Lies w9 (w.heap.size + 2) 24 #[.slice Av i cv, .int .i64 cap] := (hlow _ (by omega)).trans h2
        have hgl : g < w.heap.size + 3 := by have := hX _ hgX; omega
        have hc : ∀ q j, q < w.heap.size + 3 → w9.cell? ⟨q, j, none⟩ = wr.cell? ⟨q, j, none⟩ := fun q j hq => World.cell?_of_block (hlow q hq)
        exact ⟨⟨(hc _ _ (by omega)).trans q2, (hc _ _ (by omega)).trans q0, (hc _ _ hgl).trans x0, (hc _ _ hgl).trans x1, (hc _ _ hgl).trans x2, (hc _ _ hgl).trans x3, (hc _ _ hgl).trans x4, (hc _ _ hgl).trans x5⟩, hL9, hL9.frozen 0, hb9⟩
      have HV := Lib.hid hV.out
      have him : (i : Int) < m := by omega
      clear hx hI hba hct hT hbT hkeep hV h0 h2 x0 x1 x2 x3 x4 x5 q2
      go_upto_region 5 with fail
      refine wp_region_K (S := (fun V => V.cell? ⟨w.heap.size + 2, 0, none⟩ = some (.slice Av i cv) ∧ V.cell? ⟨w.heap.size, 0, none⟩ = some (.slice (some ⟨g, o, none⟩) m c) ∧ V.cell? ⟨g, o + i * 6, none⟩ = some (.int .i64 x.kind) ∧ V.cell? ⟨g, o + i * 6 + 1, none⟩ = some (.int .i64 x.level) ∧ V.cell? ⟨g, o + i * 6 + 2, none⟩ = some (.int .i64 x.n) ∧ V.cell? ⟨g, o + i * 6 + 3, none⟩ = some (.string x.name) ∧ V.cell? ⟨g, o + i * 6 + 4, none⟩ = some (.slice B x.alts.length ba) ∧ V.cell? ⟨g, o + i * 6 + 5, none⟩ = some (.slice C x.to.length ct))) 10 rfl HS0.out (fun hSs => ?_)
      change wpAnyK _ _ _ _ _ _ 11 (Array.replicate 11 false) _ _
      refine wpAnyK_take (i := 0) (oi := ⟨some 15, _, _, _, _, _⟩) (v := .pointer (some ⟨w.heap.size + 2, 0, none⟩)) rfl (by kernel_rfl) (by kernel_rfl) (by kernel_rfl) (by kernel_rfl) (fun _ _ _ h => h) (.inl ⟨by kernel_rfl, fun W hW => by first | (obtain ⟨s0, s1, s2, s3, s4, s5, s6, s7⟩ := hW; go_simp; done) | (obtain ⟨s0, s1, s2, s3, s4, s5, s6, s7⟩ := hW; go_simp; omega) | (obtain ⟨s0, s1, s2, s3, s4, s5, s6, s7⟩ := hW; go_simp; simp [*]; done)⟩) hSs ?_
      try simp only [Act.put, List.setIfInBounds_toArray, List.set_cons_zero, List.set_cons_succ]
      refine wpAnyK_take (i := 1) (oi := ⟨some 16, _, _, _, _, _⟩) (v := .slice Av i cv) rfl (by kernel_rfl) (by kernel_rfl) (by kernel_rfl) (by kernel_rfl) (fun _ _ _ h => h) (.inl ⟨by kernel_rfl, fun W hW => by first | (obtain ⟨s0, s1, s2, s3, s4, s5, s6, s7⟩ := hW; go_simp; done) | (obtain ⟨s0, s1, s2, s3, s4, s5, s6, s7⟩ := hW; go_simp; omega) | (obtain ⟨s0, s1, s2, s3, s4, s5, s6, s7⟩ := hW; go_simp; simp [*]; done)⟩) hSs ?_
      try simp only [Act.put, List.setIfInBounds_toArray, List.set_cons_zero, List.set_cons_succ]
      refine wpAnyK_take (i := 2) (oi := ⟨some 17, _, _, _, _, _⟩) (v := .pointer (some ⟨w.heap.size, 0, none⟩)) rfl (by kernel_rfl) (by kernel_rfl) (by kernel_rfl) (by kernel_rfl) (fun _ _ _ h => h) (.inl ⟨by kernel_rfl, fun W hW => by first | (obtain ⟨s0, s1, s2, s3, s4, s5, s6, s7⟩ := hW; go_simp; done) | (obtain ⟨s0, s1, s2, s3, s4, s5, s6, s7⟩ := hW; go_simp; omega) | (obtain ⟨s0, s1, s2, s3, s4, s5, s6, s7⟩ := hW; go_simp; simp [*]; done)⟩) hSs ?_
      try simp only [Act.put, List.setIfInBounds_toArray, List.set_cons_zero, List.set_cons_succ]
      refine wpAnyK_take (i := 3) (oi := ⟨some 18, _, _, _, _, _⟩) (v := .slice (some ⟨g, o, none⟩) m c) rfl (by kernel_rfl) (by kernel_rfl) (by kernel_rfl) (by kernel_rfl) (fun _ _ _ h => h) (.inl ⟨by kernel_rfl, fun W hW => by first | (obtain ⟨s0, s1, s2, s3, s4, s5, s6, s7⟩ := hW; go_simp; done) | (obtain ⟨s0, s1, s2, s3, s4, s5, s6, s7⟩ := hW; go_simp; omega) | (obtain ⟨s0, s1, s2, s3, s4, s5, s6, s7⟩ := hW; go_simp; simp [*]; done)⟩) hSs ?_
      try simp only [Act.put, List.setIfInBounds_toArray, List.set_cons_zero, List.set_cons_succ]
      refine wpAnyK_take (i := 4) (oi := ⟨some 19, _, _, _, _, _⟩) (v := .int .i64 i) rfl (by kernel_rfl) (by kernel_rfl) (by kernel_rfl) (by kernel_rfl) (fun _ _ _ h => h) (.inl ⟨by kernel_rfl, fun W hW => by kernel_rfl⟩) hSs ?_
      try simp only [Act.put, List.setIfInBounds_toArray, List.set_cons_zero, List.set_cons_succ]
      refine wpAnyK_take (i := 5) (oi := ⟨some 20, _, _, _, _, _⟩) (v := .pointer (some ⟨g, o + i * 6, none⟩)) rfl (by kernel_rfl) (by kernel_rfl) (by kernel_rfl) (by kernel_rfl) (fun _ _ _ h => h) (.inl ⟨by kernel_rfl, fun W hW => by first | (obtain ⟨s0, s1, s2, s3, s4, s5, s6, s7⟩ := hW; go_simp; done) | (obtain ⟨s0, s1, s2, s3, s4, s5, s6, s7⟩ := hW; go_simp; omega) | (obtain ⟨s0, s1, s2, s3, s4, s5, s6, s7⟩ := hW; go_simp; simp [*]; done)⟩) hSs ?_
      try simp only [Act.put, List.setIfInBounds_toArray, List.set_cons_zero, List.set_cons_succ]
      refine wpAnyK_take (i := 6) (oi := ⟨some 21, _, _, _, _, _⟩) (v := .agg #[.int .i64 x.kind, .int .i64 x.level, .int .i64 x.n, .string x.name, .slice B x.alts.length ba, .slice C x.to.length ct]) rfl (by kernel_rfl) (by kernel_rfl) (by kernel_rfl) (by kernel_rfl) (fun _ _ _ h => h) (.inl ⟨by kernel_rfl, fun W hW => by first | (obtain ⟨s0, s1, s2, s3, s4, s5, s6, s7⟩ := hW; go_simp; done) | (obtain ⟨s0, s1, s2, s3, s4, s5, s6, s7⟩ := hW; go_simp; omega) | (obtain ⟨s0, s1, s2, s3, s4, s5, s6, s7⟩ := hW; go_simp; simp [*]; done)⟩) hSs ?_
      try simp only [Act.put, List.setIfInBounds_toArray, List.set_cons_zero, List.set_cons_succ]
      refine wpAnyK_one (i := 7) rfl rfl (by kernel_rfl) (fun K hK => ?_)
      go_simp
      refine hK.out _ _ (fun _ => HS1.out) (fun hS1 => ?_)
      clear hK K hSs
      try simp only [Act.put, List.setIfInBounds_toArray, List.set_cons_zero, List.set_cons_succ]
      refine wpAnyK_one (i := 8) rfl rfl (by kernel_rfl) (fun K hK => ?_)
      refine wp_append_own _ (.tmp 16) (.tmp 22) 22 rfl (w.heap.size + 3) 28 i0 (.agg #[.int .i64 0, .int .i64 0, .int .i64 0, .string ⟨#[]⟩, .slice none 0 0, .slice none 0 0]) 6 88 Tryd.underlying22 hi0 hz0 hz1 hz2 rfl (by decide) (.slice Av i cv) i xs rfl HOW.out ⟨wr.heap.size, 0, none⟩ 1 1 [.int .i64 x.kind, .int .i64 x.level, .int .i64 x.n, .string x.name, .slice B x.alts.length ba, .slice C x.to.length ct] rfl rfl HNW.out (by simp [Value.oneCell']) (by unfold maxLen; omega) (by omega) (by show w.heap.size + 3 ≤ (wr.heap.push _).size; simp; omega) ?_
      intro v9 w9 hown9 hg9 hv9
      obtain ⟨g9, c9, rfl⟩ := own_sliceN hown9 (fun e => by have := (hv9.1 e).2; omega)
      have hS9 := HS9.out _ w9 hown9 hg9
      clear hv9
      obtain ⟨hSS, hn9, hf9, hb9⟩ := hS9
      refine hK.out _ _ (fun _ => hSS) (fun hS2 => ?_)
      clear hK K hS1
      try simp only [Act.put, List.setIfInBounds_toArray]
      refine wpAnyK_take (i := 9) (oi := ⟨some 24, _, _, _, _, _⟩) (v := .pointer (some ⟨w.heap.size + 2, 0, none⟩)) rfl (by kernel_rfl) (by kernel_rfl) (by kernel_rfl) (by kernel_rfl) (fun _ _ _ h => h) (.inl ⟨by kernel_rfl, fun W hW => by first | (obtain ⟨s0, s1, s2, s3, s4, s5, s6, s7⟩ := hW; go_simp; done) | (obtain ⟨s0, s1, s2, s3, s4, s5, s6, s7⟩ := hW; go_simp; omega) | (obtain ⟨s0, s1, s2, s3, s4, s5, s6, s7⟩ := hW; go_simp; simp [*]; done)⟩) hSS ?_
      try simp only [Act.put]
      refine wpAnyK_one (i := 10) rfl rfl (by kernel_rfl) (fun K hK => ?_)
      have n9 := hSS.1
      go_simp
      refine hK.out _ _ (fun h => absurd rfl h) (fun _ => ?_)
      clear hK K hS2
      try simp only [Act.put, List.setIfInBounds_toArray, List.set_cons_zero, List.set_cons_succ]
      refine wpAnyK_done (by kernel_rfl) ?_ _
      have HO9 := Lib.hid hown9
      have HN9 := Lib.hid hn9
      have HB9 := Lib.hid hb9
      clear hown9 hg9 hSS hn9 hf9 hb9 n9 HS0 HS1 HS9 HOW HNW q0
      go_wp2_with fail
      go_roundw
      case rel =>
        go_light
        obtain ⟨v0, v1, v2, v3, v4, v5, v6, v7⟩ := HV.out
        have hb9 := HB9.out
        have hb8 : Below (w.heap.size + 2) wr (w9.setCell ⟨w.heap.size + 2, 0, none⟩ (.slice (some ⟨g9, 0, none⟩) (i + 1) c9)) := (show Below (w.heap.size + 2) wr w9 from hb9.mono (Nat.le_succ _)).setCell (p := ⟨w.heap.size + 2, 0, none⟩) (Nat.le_refl _) _
        have hcl : ∀ q j, q < w.heap.size → (w9.setCell ⟨w.heap.size + 2, 0, none⟩ (.slice (some ⟨g9, 0, none⟩) (i + 1) c9)).cell? ⟨q, j, none⟩ = wr.cell? ⟨q, j, none⟩ := fun q j hq => hb8.cell (p := ⟨q, j, none⟩) (by show q < w.heap.size + 2; omega)
        refine ⟨i + 1, some ⟨g9, 0, none⟩, c9, xs ++ [.int .i64 x.kind, .int .i64 x.level, .int .i64 x.n, .string x.name, .slice B x.alts.length ba, .slice C x.to.length ct], by omega, by go_num, Lib.hid ⟨v0.below hb8 (by omega), v1.below hb8 (by omega), HN9.out.put0 _, ownsRow_setCell_below HO9.out (a := ⟨w.heap.size + 2, 0, none⟩) (by show w.heap.size + 2 < w.heap.size + 3; omega) _, ?_, v5.keep (fun q j hq _ => ⟨hcl q j (hX _ hq), hq⟩), v6.trans (hb8.mono (by omega)), Nat.le_trans v7 (hb8.size)⟩⟩
        rw [List.take_succ_eq_append_getElem hil]
        have hxe : x = l[i]'hil := by rw [HX.out, ndAt_lt hil]
        rw [← hxe]
        have h9 := (v4.keep (w' := w9.setCell ⟨w.heap.size + 2, 0, none⟩ (.slice (some ⟨g9, 0, none⟩) (i + 1) c9)) (Y := X) (fun q j hq _ => ⟨hcl q j (hX _ hq), hq⟩)).snoc (B := B) (C := C) (b := bb) (c := cc) (HI.out.keep (w' := w9.setCell ⟨w.heap.size + 2, 0, none⟩ (.slice (some ⟨g9, 0, none⟩) (i + 1) c9)) (Y := X) (fun q j hq _ => ⟨hcl q j (hX _ hq), hq⟩))
        rw [HBA.out, HCT.out]
        exact h9
      case measure => simp [intOf]; omega
    · have him : i = m := by omega
      subst him
      obtain ⟨v0, v1, v2, v3, v4, v5, v6, v7⟩ := hV.out
      obtain ⟨p0, p1⟩ := two_cells v2
      obtain ⟨r0, r1⟩ := two_cells v1
      have f0 := v1.frozen 0
      have f1 := v1.frozen 1
      have HV := Lib.hid hV.out
      clear v0 v1 v2 v3 v4 v5 v6 v7 hV
      go_wp2_with fail
      have hR9 := lies_put2 HV.out.2.1 (.slice Av i cv) (.int .i64 cap)
      obtain ⟨v0, v1, v2, v3, v4, v5, v6, v7⟩ := HV.out
      refine bodyPost_ret (res_net1 (p := 2) Tryd.results20 rfl hR9) rfl ⟨Av, cv, xs, rfl, ownsRow_setCell_below (ownsRow_setCell_below v3 (a := ⟨w.heap.size + 1, 0, none⟩) (by show w.heap.size + 1 < w.heap.size + 3; omega) _) (a := ⟨w.heap.size + 1, 1, none⟩) (by show w.heap.size + 1 < w.heap.size + 3; omega) _, ?_, (v6.setCell (p := ⟨w.heap.size + 1, 0, none⟩) (by show w.heap.size ≤ w.heap.size + 1; omega) _).setCell (p := ⟨w.heap.size + 1, 1, none⟩) (by show w.heap.size ≤ w.heap.size + 1; omega) _⟩
      rw [List.take_of_length_le (by have := HM.out; omega)] at v4
      exact (v4.keep (keep_set _ _ (fun h => by have := hX _ h; simp at this; omega))).keep (keep_set _ _ (fun h => by have := hX _ h; simp at this; omega))
end Lx
end Go.Proofs.YtceblpjlklogpaaDoor
