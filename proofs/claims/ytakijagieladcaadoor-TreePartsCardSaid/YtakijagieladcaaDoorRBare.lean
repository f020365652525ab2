/-
  Walk of the reference's Bare.
-/
import Derived.Test.YtakijagieladcaaDoorRowTr
import Derived.Test.YtakijagieladcaaDoorDepth
import Derived.Maps.AppendAt
import Derived.Deep.RegionHeld3
import Derived.Deep.AppendLies
import Derived.Deep.DrawnRows
import Derived.Test.YtakijagieladcaaDoorHeldK
namespace Go.Proofs.YtakijagieladcaaDoor
open Go.RowKit
namespace Lx
/-- The answer is a tree as a value, its parts in new memory. -/
def GivesT (t : Tr) (w : World) (e : Ending) (w' : World) : Prop :=
  ∃ A c, e = .returned (tv t A c) ∧ TIn w' (fun g => w.heap.size ≤ g) t A ∧ Below w.heap.size w w'
theorem bareT_kind (t : Tr) : (bareT t).kind = t.kind := by cases t; simp [bareT, Tr.kind]
theorem bareT_name (t : Tr) : (bareT t).name = t.name := by cases t; simp [bareT, Tr.name]
theorem bareT_n (t : Tr) : (bareT t).n = t.n := by cases t; simp [bareT, Tr.n]
theorem bareT_place (t : Tr) : (bareT t).place = 0 := by cases t; simp [bareT, Tr.place]
theorem bareL_length (l : List Tr) : (bareL l).length = l.length := by rw [bareL_map]; simp
theorem bareT_parts (t : Tr) : (bareT t).parts.length = t.parts.length := by cases t; simp [bareT, Tr.parts, bareL_length]
theorem tv_bare (t : Tr) (A : Option Addr) (c : Nat) : tv (bareT t) A c = .agg #[.int .i64 t.kind, .string t.name, .int .i64 t.n, .int .i64 0, .slice A t.parts.length c] := by
  rw [tv, bareT_kind, bareT_name, bareT_n, bareT_place, bareT_parts]
theorem take_snoc_map {α β : Type} (f : α → β) (l : List α) (i : Nat) (h : i < l.length) : (l.take (i + 1)).map f = (l.take i).map f ++ [f (l[i]'h)] := by
  rw [List.take_succ_eq_append_getElem h, List.map_append]; rfl

set_option maxHeartbeats 2000000 in
theorem rbare_any (d : Nat) : ∀ (t : Tr) (A : Option Addr) (c : Nat) (w : World), depthT t ≤ d → sizeT t ≤ 100000 → TIn w Any t A →
    Calls Tryd.prog 28 #[tv t A c] w (GivesT (bareT t) w) := by
  induction d with
  | zero => intro t A c w h; have := depth_pos t; omega
  | succ d ih =>
    intro t A c w hd hs hI
    obtain ⟨k, s, n, a, l⟩ := t
    have hdL : depthL l ≤ d := by rw [depthT] at hd; omega
    have hsL : sizeL l ≤ 100000 := by rw [sizeT] at hs; omega
    have hlen := sizeL_len l
    have hss : s.size ≤ 140737488351232 := by rw [TIn] at hI; exact hI.1
    have HI := Lib.hid hI
    clear hI hd hs
    show Calls Tryd.prog 28 #[.agg #[.int .i64 k, .string s, .int .i64 n, .int .i64 a, .slice A l.length c]] w _
    obtain ⟨m, hm⟩ : ∃ m, m = l.length := ⟨_, rfl⟩
    rw [← hm]
    have hm1 : m ≤ l.length := by omega
    have hm2 : l.length ≤ m := by omega
    clear hm
    go_enter Tryd.func28, Tryd.ntmps28
    go_wp2_with fail
    go_loopw [4] (fun x wr => ∃ (i : Nat) (B : Option Addr) (bc : Nat) (xs : List Value), i ≤ m ∧ x = .int .i64 i ∧
        Lies wr w.heap.size 33 #[.int .i64 k, .string s, .int .i64 n, .int .i64 a, .slice A m c] ∧
        Lies wr (w.heap.size + 1) 33 #[.int .i64 0, .string ⟨#[]⟩, .int .i64 0, .int .i64 0, .slice none 0 0] ∧
        Lies wr (w.heap.size + 1 + 1) 33 #[.int .i64 k, .string s, .int .i64 n, .int .i64 0, .slice B i bc] ∧
        wr.ownsRow (w.heap.size + 3) 33 5 (.slice B i bc) i xs ∧
        RowTr wr (fun g => w.heap.size + 3 ≤ g ∧ some g ≠ (Value.slice B i bc).ownBlock) ((l.take i).map bareT) xs ∧ w.heap.size + 3 ≤ wr.heap.size ∧ Below w.heap.size w wr) (fun x _ => m - (intOf x).toNat)
    case atStart =>
      refine ⟨0, none, 0, [], by omega, rfl, ((Lies.new w _ _).old _).old _, ?_, ?_, World.ownsRow_nil _ _ _ _, RowTr.nil _ _, by simp, (((Below.refl _ w).alloc (Nat.le_refl _) _).alloc (by simp) _).alloc (by simp; omega) _⟩
      · simpa using (Lies.new (w.alloc _) 33 #[.int .i64 0, .string ⟨#[]⟩, .int .i64 0, .int .i64 0, .slice none 0 0]).old _
      · simpa using Lies.new ((w.alloc _).alloc _) 33 #[.int .i64 k, .string s, .int .i64 n, .int .i64 0, .slice none 0 0]
    case round =>
      obtain ⟨i, B, bc, xs, hi, rfl, l0, l1, l2, hown, hrow, hsz, hbw⟩ := hrel
      have c4 := l0.five.1.2.2.2.2
      by_cases hlt : i < m
      · have hia : i < l.length := by omega
        obtain ⟨g, o, A', c', ⟨hA, _⟩, d0, d1, d2, d3, d4, hIn⟩ := TIn.part (TIn.below _ HI.out hbw (Nat.le_refl _)) i hia
        subst hA
        have hm3 := depthL_mem l (l[i]'hia) (List.getElem_mem hia)
        have hm4 := sizeL_mem l (l[i]'hia) (List.getElem_mem hia)
        have HS := Lib.hid (take_snoc_map bareT l i hia)
        simp only [Tr.parts] at d0 d1 d2 d3 d4 hIn
        obtain ⟨tr, hu⟩ : ∃ tr, tr = l[i]'hia := ⟨_, rfl⟩
        rw [← hu] at d0 d1 d2 d3 d4 hIn hm3 hm4 HS
        clear hu
        obtain ⟨tk, ts, tn, ta, tl⟩ := tr
        simp only [Tr.kind, Tr.name, Tr.n, Tr.place] at d0 d1 d2 d3 d4
        have e4 := l2.five.1.2.2.2.2
        have hg0 := (TIn.part HI.out i hia)
        obtain ⟨g0, o0, _, _, ⟨hA0, _⟩, hx0, _⟩ := hg0
        injection hA0 with hA0
        injection hA0 with hA0 hA1
        subst hA0 hA1
        have hgw := cell_lt hx0
        clear hx0
        have hS : ∀ W : World, (∀ b j, b < w.heap.size + 3 → W.cell? ⟨b, j, none⟩ = wr.cell? ⟨b, j, none⟩) → W.cell? ⟨w.heap.size + 1 + 1, 4, none⟩ = some (.slice B i bc) ∧ W.cell? ⟨w.heap.size, 4, none⟩ = some (.slice (some ⟨g, o, none⟩) m c) ∧ W.cell? ⟨g, o + i * 5, none⟩ = some (.int .i64 tk) ∧ W.cell? ⟨g, o + i * 5 + 1, none⟩ = some (.string ts) ∧ W.cell? ⟨g, o + i * 5 + 2, none⟩ = some (.int .i64 tn) ∧ W.cell? ⟨g, o + i * 5 + 3, none⟩ = some (.int .i64 ta) ∧ W.cell? ⟨g, o + i * 5 + 4, none⟩ = some (.slice A' tl.length c') := fun W hW =>
          ⟨(hW _ _ (by omega)).trans e4, (hW _ _ (by omega)).trans c4, (hW _ _ (by omega)).trans d0, (hW _ _ (by omega)).trans d1, (hW _ _ (by omega)).trans d2, (hW _ _ (by omega)).trans d3, (hW _ _ (by omega)).trans d4⟩
        have HSS := Lib.hid hS
        clear hS
        have hlto := hown.lt
        obtain ⟨i0, hi0, hz0, hz1, hz2⟩ := info_parts infoT
        go_wp2_with fail
        refine wp_region_K (S := fun W : World => W.cell? ⟨w.heap.size + 1 + 1, 4, none⟩ = some (.slice B i bc) ∧ W.cell? ⟨w.heap.size, 4, none⟩ = some (.slice (some ⟨g, o, none⟩) m c) ∧ W.cell? ⟨g, o + i * 5, none⟩ = some (.int .i64 tk) ∧ W.cell? ⟨g, o + i * 5 + 1, none⟩ = some (.string ts) ∧ W.cell? ⟨g, o + i * 5 + 2, none⟩ = some (.int .i64 tn) ∧ W.cell? ⟨g, o + i * 5 + 3, none⟩ = some (.int .i64 ta) ∧ W.cell? ⟨g, o + i * 5 + 4, none⟩ = some (.slice A' tl.length c')) 11 (by kernel_rfl) ⟨e4, c4, d0, d1, d2, d3, d4⟩ fun hS1 => ?_
        change wpAnyK _ _ _ _ _ _ 12 (Array.replicate 12 false) _ _
        clear e4 c4 d0 d1 d2 d3 d4
        refine wpAnyK_take (i := 0) (v := .pointer (some ⟨w.heap.size + 1 + 1, 4, none⟩)) rfl (by kernel_rfl) (by kernel_rfl) (by kernel_rfl) (by kernel_rfl) (fun _ _ _ h => h) (.inl ⟨by kernel_rfl, fun W hW => by kernel_rfl⟩) hS1 ?_
        try simp only [Act.put, List.setIfInBounds_toArray]
        refine wpAnyK_take (i := 1) (v := .slice B i bc) rfl (by kernel_rfl) (by kernel_rfl) (by kernel_rfl) (by kernel_rfl) (fun _ _ _ h => h) (.inl ⟨by kernel_rfl, fun W hW => by (obtain ⟨h0, h1, h2, h3, h4, h5, h6⟩ := hW; go_simp)⟩) hS1 ?_
        try simp only [Act.put]
        refine wpAnyK_take (i := 2) (v := .pointer (some ⟨w.heap.size, 4, none⟩)) rfl (by kernel_rfl) (by kernel_rfl) (by kernel_rfl) (by kernel_rfl) (fun _ _ _ h => h) (.inl ⟨by kernel_rfl, fun W hW => by kernel_rfl⟩) hS1 ?_
        try simp only [Act.put]
        refine wpAnyK_take (i := 3) (v := .slice (some ⟨g, o, none⟩) m c) rfl (by kernel_rfl) (by kernel_rfl) (by kernel_rfl) (by kernel_rfl) (fun _ _ _ h => h) (.inl ⟨by kernel_rfl, fun W hW => by (obtain ⟨h0, h1, h2, h3, h4, h5, h6⟩ := hW; go_simp)⟩) hS1 ?_
        try simp only [Act.put]
        refine wpAnyK_take (i := 4) (v := .int .i64 i) rfl (by kernel_rfl) (by kernel_rfl) (by kernel_rfl) (by kernel_rfl) (fun _ _ _ h => h) (.inl ⟨by kernel_rfl, fun W hW => by kernel_rfl⟩) hS1 ?_
        try simp only [Act.put]
        refine wpAnyK_take (i := 5) (v := .pointer (some ⟨g, o + i * 5, none⟩)) rfl (by kernel_rfl) (by kernel_rfl) (by kernel_rfl) (by kernel_rfl) (fun _ _ _ h => h) (.inl ⟨by kernel_rfl, fun W hW => by (obtain ⟨h0, h1, h2, h3, h4, h5, h6⟩ := hW; go_simp)⟩) hS1 ?_
        try simp only [Act.put]
        refine wpAnyK_take (i := 6) (v := .agg #[.int .i64 tk, .string ts, .int .i64 tn, .int .i64 ta, .slice A' tl.length c']) rfl (by kernel_rfl) (by kernel_rfl) (by kernel_rfl) (by kernel_rfl) (fun _ _ _ h => h) (.inl ⟨by kernel_rfl, fun W hW => by (obtain ⟨h0, h1, h2, h3, h4, h5, h6⟩ := hW; go_simp)⟩) hS1 ?_
        try simp only [Act.put]
        refine wpAnyK_one (i := 7) rfl rfl (by kernel_rfl) (fun K hK => ?_)
        go_wp2_with fail
        refine (ih (.node tk ts tn ta tl) A' c' wr.drew (by omega) (by omega) (TIn.below _ hIn ((Below.refl _ wr).drew) (Nat.le_refl _))).mono ?_
        rintro e w2 ⟨A2, c2, he, hT2, hb2⟩
        rw [tv_bare] at he
        simp only [Tr.kind, Tr.name, Tr.n, Tr.parts] at he
        subst he
        have hbr : Below wr.heap.size wr w2 := (Below.refl _ wr).drew.trans hb2
        have hs2 := hbr.size
        have k0 := l0.below hbr (by omega)
        have k1 := l1.below hbr (by omega)
        have k2 := l2.below hbr (by omega)
        have hown2 := own_below hown hbr (Nat.le_refl _)
        have hrow2 := hrow.below hbr (Nat.le_refl _)
        have hbw2 := hbw.trans (hbr.mono hbw.size)
        have K2 : ∀ b j, b < w.heap.size + 3 → w2.cell? ⟨b, j, none⟩ = wr.cell? ⟨b, j, none⟩ := fun b j hb => hbr.cell (p := ⟨b, j, none⟩) (by show b < _; omega)
        refine hK.out _ _ (fun _ => HSS.out _ K2) fun _ => ?_
        clear hK hS1 hbr hb2 hIn hown hrow hbw l0 l1 l2
        try simp only [Act.put, List.setIfInBounds_toArray, List.set_cons_zero, List.set_cons_succ]
        refine wpAnyK_one (i := 8) rfl rfl (by kernel_rfl) (fun K hK => ?_)
        go_wp2_with fail
        have K2a : ∀ b j, b < w.heap.size + 3 → (w2.alloc (.cells #[.int .i64 tk, .string ts, .int .i64 tn, .int .i64 0, .slice A2 tl.length c2] 33)).cell? ⟨b, j, none⟩ = wr.cell? ⟨b, j, none⟩ := fun b j hb => (World.cell?_alloc_lt w2 _ ⟨b, j, none⟩ (by show b < _; omega)).trans (K2 b j hb)
        refine hK.out _ _ (fun _ => HSS.out _ K2a) fun _ => ?_
        clear hK
        try simp only [Act.put, List.setIfInBounds_toArray, List.set_cons_zero, List.set_cons_succ]
        refine wpAnyK_one (i := 9) rfl rfl (by kernel_rfl) (fun K hK => ?_)
        refine wp_append_lies _ _ _ _ rfl (w.heap.size + 3) 33 i0 _ 5 64 Tryd.underlying31 hi0 hz0 hz1 hz2 rfl (by omega) (.slice B i bc) i xs rfl (hown2.alloc _)
                ⟨w2.heap.size, 0, none⟩ 1 1 [.int .i64 tk, .string ts, .int .i64 tn, .int .i64 0, .slice A2 tl.length c2] rfl rfl (World.news_of_block (cs := #[.int .i64 tk, .string ts, .int .i64 tn, .int .i64 0, .slice A2 tl.length c2]) (t := 33) (fr := (0, 0)) (heap_alloc_new w2 _)) (by simp [Value.oneCell'])
                (by omega) (by simp only [maxLen]; omega) (by omega) (by simp; omega) (w2.heap.size + 1) (by simp) ?_
        intro gg c3 w3 hown3 hg3 hat hltg
        have K3 : ∀ b j, b < w.heap.size + 3 → w3.cell? ⟨b, j, none⟩ = wr.cell? ⟨b, j, none⟩ := fun b j hb =>
          (World.cell?_of_block (hg3.block b (by simp; omega) (fun e => by have := (hlto b e.symm).1; omega))).trans (K2a b j hb)
        refine hK.out _ _ (fun _ => HSS.out _ K3) fun _ => ?_
        clear hK
        try simp only [Act.put, List.setIfInBounds_toArray]
        refine wpAnyK_one (i := 10) rfl rfl (by kernel_rfl) (fun K hK => ?_)
        go_wp2_with fail
        refine hK.out _ _ (fun _ => HSS.out _ K3) fun _ => ?_
        clear hK
        try simp only [Act.put, List.setIfInBounds_toArray, List.set_cons_zero, List.set_cons_succ]
        refine wpAnyK_one (i := 11) rfl rfl (by kernel_rfl) (fun K hK => ?_)
        have hs3 := hg3.size
        simp at hs3
        have hnb : ∀ b, b < w.heap.size + 3 → some b ≠ (Value.slice B i bc).ownBlock := fun b hb e => by have := (hlto b e.symm).1; omega
        have j0 := (k0.old (.cells #[.int .i64 tk, .string ts, .int .i64 tn, .int .i64 0, .slice A2 tl.length c2] 33)).grown hg3 (hnb _ (by omega))
        have j1 := (k1.old (.cells #[.int .i64 tk, .string ts, .int .i64 tn, .int .i64 0, .slice A2 tl.length c2] 33)).grown hg3 (hnb _ (by omega))
        have j2 := (k2.old (.cells #[.int .i64 tk, .string ts, .int .i64 tn, .int .i64 0, .slice A2 tl.length c2] 33)).grown hg3 (hnb _ (by omega))
        have hB3 : Below w.heap.size w w3 := (hbw2.alloc hbw2.size _).grown hg3 (by simp; omega) (fun q hq => by have := (hlto q hq).1; omega)
        have e4 := j2.five.1.2.2.2.2
        have f4 := j2.five.2.2.2.2.2
        have hfar : ∀ b j, b < w2.heap.size → some b ≠ (Value.slice B i bc).ownBlock → w3.cell? ⟨b, j, none⟩ = w2.cell? ⟨b, j, none⟩ ∧ some b ≠ (Value.slice (some ⟨gg, 0, none⟩) (i + 1) c3).ownBlock := fun b j hb hne => by
          refine ⟨(World.cell?_of_block (hg3.block b (by simp; omega) hne)).trans (World.cell?_alloc_lt w2 _ ⟨b, j, none⟩ hb), fun e => ?_⟩
          have e9 : b = gg := Option.some.inj e
          rcases hat with h | h
          · exact hne (by rw [h, e9])
          · omega
        have hrow3 : RowTr w3 (fun g => w.heap.size + 3 ≤ g ∧ some g ≠ (Value.slice (some ⟨gg, 0, none⟩) (i + 1) c3).ownBlock) ((l.take i).map bareT) xs :=
          hrow2.keep fun b j hX hb => ⟨(hfar b j hb hX.2).1, hX.1, (hfar b j hb hX.2).2⟩
        have hT3 : TIn w3 (fun g => w.heap.size + 3 ≤ g ∧ some g ≠ (Value.slice (some ⟨gg, 0, none⟩) (i + 1) c3).ownBlock) (bareT (.node tk ts tn ta tl)) A2 :=
          TIn.keep _ hT2 fun b j hX hb => by
            have hX' : wr.heap.size ≤ b := hX
            have hne : some b ≠ (Value.slice B i bc).ownBlock := fun e => by have := (hlto b e.symm).2; omega
            exact ⟨(hfar b j hb hne).1, by omega, (hfar b j hb hne).2⟩
        clear hi0 hz0 hz1 hz2 hg3 hat k0 k1 k2 hown2 hrow2 hfar hT2 K2 K2a K3
        go_wp2_with fail
        refine hK.out _ _ (fun h => absurd rfl h) fun _ => ?_
        clear hK
        try simp only [Act.put, List.setIfInBounds_toArray, List.set_cons_zero, List.set_cons_succ]
        refine wpAnyK_done (by kernel_rfl) ?_ _
        go_wp2_with fail
        go_roundw
        case rel =>
          refine ⟨i + 1, some ⟨gg, 0, none⟩, c3, xs ++ cellsT (bareT (.node tk ts tn ta tl)) A2 c2, by omega, by go_num, j0.far (by simp; omega) _, j1.far (by simp) _, by simpa using j2.put 4 (.slice (some ⟨gg, 0, none⟩) (i + 1) c3), ?_, ?_, by simp [World.setCell]; omega, hB3.setCell (by show w.heap.size ≤ w.heap.size + 1 + 1; omega) _⟩
          · have h5 : cellsT (bareT (.node tk ts tn ta tl)) A2 c2 = [.int .i64 tk, .string ts, .int .i64 tn, .int .i64 0, .slice A2 tl.length c2] := by
              rw [cellsT, bareT_kind, bareT_name, bareT_n, bareT_place, bareT_parts]; rfl
            rw [h5]
            exact ownsRow_setCell_below hown3 (by show w.heap.size + 1 + 1 < _; omega) _
          · rw [HS.out]
            exact (hrow3.snoc hT3).setCell _ _ (fun h => by have h9 : w.heap.size + 3 ≤ w.heap.size + 1 + 1 := h.1; omega)
        case measure => simp [intOf]; omega
      · have e0 := l2.five.1.1
        have e1 := l2.five.1.2.1
        have e2 := l2.five.1.2.2.1
        have e3 := l2.five.1.2.2.2.1
        have e4 := l2.five.1.2.2.2.2
        obtain ⟨⟨z0, z1, z2, z3, z4⟩, f0, f1, f2, f3, f4⟩ := l1.five
        go_wp2_with fail
        obtain rfl : i = m := by omega
        have hpl : (l.take i).map bareT = bareL l := by rw [bareL_map, List.take_of_length_le (by omega)]
        rw [hpl] at hrow
        have hbl := bareL_length l
        have hil : i = l.length := by omega
        refine bodyPost_ret (res_tree (p := 2) Tryd.results28 rfl (l1.all5 _ _ _ _ _)) rfl ⟨B, bc, ?_, ?_, ?_⟩
        · rw [tv_bare]
          simp only [Tr.kind, Tr.name, Tr.n, Tr.parts]
          rw [hil]
        · rw [bareT, TIn]
          refine ⟨hss, by omega, ?_⟩
          have hL := hrow.owned (Y := fun g => w.heap.size + 3 ≤ g) hown (fun g hg => hg) (fun g hg _ => hg.1)
          refine LIn.keep _ hL fun g j hg _ => ⟨?_, by omega⟩
          have hne : ∀ q u, (⟨w.heap.size + 1, q, none⟩ : Addr) ≠ ⟨g, u, none⟩ := fun q u e => by injection e with e; omega
          rw [World.cell?_setCell_other _ _ _ _ (hne _ _), World.cell?_setCell_other _ _ _ _ (hne _ _), World.cell?_setCell_other _ _ _ _ (hne _ _), World.cell?_setCell_other _ _ _ _ (hne _ _), World.cell?_setCell_other _ _ _ _ (hne _ _)]
        · exact Below.all5 hbw (by omega) _ _ _ _ _
end Lx
end Go.Proofs.YtakijagieladcaaDoor
