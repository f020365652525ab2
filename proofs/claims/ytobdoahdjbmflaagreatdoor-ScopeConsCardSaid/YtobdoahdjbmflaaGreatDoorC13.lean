/-
  Texts that lie one behind the other: RBare Ref RefRun RefSign RefOne.
-/
import Derived.Test.YtobdoahdjbmflaaGreatDoorC11
import Derived.Test.YtobdoahdjbmflaaGreatDoorC4
import Derived.Test.YtobdoahdjbmflaaGreatDoorC8
import Derived.Test.YtobdoahdjbmflaaGreatDoorC1
import Derived.Test.YtobdoahdjbmflaaGreatDoorC2
import Derived.Test.YtobdoahdjbmflaaGreatDoorC3
import Derived.Maps.AppendAt
import Derived.Deep.RegionHeld3
import Derived.Deep.AppendLies
import Derived.Deep.DrawnRows
import Derived.OwnWalk
import Derived.Deep.QuietTactic
import Derived.BigQuiet
namespace Go.Proofs.YtobdoahdjbmflaaGreatDoor
open Go.RowKit
namespace Lx
set_option maxRecDepth 100000
/-- The answer is a tree as a value, its parts in new memory. -/
def GivesT (t : Tr) (w : World) (e : Ending) (w' : World) : Prop :=
  ∃ A c, e = .returned (tv t A c) ∧ TIn w' (fun g => w.heap.size ≤ g) t A ∧ Below w.heap.size w w'
theorem bareT_kind (t : Tr) : (bareT t).kind = t.kind := by cases t; simp [bareT, Tr.kind]
theorem bareT_name (t : Tr) : (bareT t).name = t.name := by cases t; simp [bareT, Tr.name]
theorem bareT_n (t : Tr) : (bareT t).n = t.n := by cases t; simp [bareT, Tr.n]
theorem bareT_place (t : Tr) : (bareT t).place = 0 := by cases t; simp [bareT, Tr.place]
theorem bareL_length (l : List Tr) : (bareL l).length = l.length := by rw [bareL_map]; simp
theorem bareT_parts (t : Tr) : (bareT t).parts.length = t.parts.length := by cases t; simp [bareT, Tr.parts, bareL_length]
theorem tv_bare (t : Tr) (A : Option Addr) (c : Nat) : tv (bareT t) A c = .agg #[.int .i64 t.kind, .string t.name, .int .i64 t.n, .int .i64 0, .slice A t.parts.length (capF t.parts.length c)] := by
  rw [tv, bareT_kind, bareT_name, bareT_n, bareT_place, bareT_parts]
theorem take_snoc_map {α β : Type} (f : α → β) (l : List α) (i : Nat) (h : i < l.length) : (l.take (i + 1)).map f = (l.take i).map f ++ [f (l[i]'h)] := by
  rw [List.take_succ_eq_append_getElem h, List.map_append]; rfl

set_option maxHeartbeats 2000000 in
theorem rbare_any (d : Nat) : ∀ (t : Tr) (A : Option Addr) (c : Nat) (w : World), depthT t ≤ d → sizeT t ≤ 100000 → TIn w Any t A →
    Calls Tryz.prog 20 #[tv t A c] w (GivesT (bareT t) w) := by
  induction d with
  | zero => intro t A c w h; have := depth_pos t; omega
  | succ d ih =>
    intro t A c w hd hs hI
    obtain ⟨k, s, n, a, l⟩ := t
    have hdL : depthL l ≤ d := by rw [depthT] at hd; omega
    have hsL : sizeL l ≤ 100000 := by rw [sizeT] at hs; omega
    have hlen := sizeL_len l
    have hss : s.size ≤ 140737488351232 := by rw [TIn] at hI; exact hI.1
    have HI := Lib.hid hI
    clear hI hd hs
    show Calls Tryz.prog 20 #[.agg #[.int .i64 k, .string s, .int .i64 n, .int .i64 a, .slice A l.length (capF l.length c)]] w _
    generalize capF l.length c = c
    obtain ⟨m, hm⟩ : ∃ m, m = l.length := ⟨_, rfl⟩
    rw [← hm]
    have hm1 : m ≤ l.length := by omega
    have hm2 : l.length ≤ m := by omega
    clear hm
    go_enter Tryz.func20, Tryz.ntmps20
    go_wp2_with fail
    go_loopw [4] (fun x wr => ∃ (i : Nat) (B : Option Addr) (bc : Nat) (xs : List Value), i ≤ m ∧ x = .int .i64 i ∧
        Lies wr w.heap.size 24 #[.int .i64 k, .string s, .int .i64 n, .int .i64 a, .slice A m c] ∧
        Lies wr (w.heap.size + 1) 24 #[.int .i64 0, .string ⟨#[]⟩, .int .i64 0, .int .i64 0, .slice none 0 0] ∧
        Lies wr (w.heap.size + 1 + 1) 24 #[.int .i64 k, .string s, .int .i64 n, .int .i64 0, .slice B i bc] ∧
        wr.ownsRow (w.heap.size + 3) 24 5 (.slice B i bc) i xs ∧
        RowTr wr (fun g => w.heap.size + 3 ≤ g ∧ some g ≠ (Value.slice B i bc).ownBlock) ((l.take i).map bareT) xs ∧ w.heap.size + 3 ≤ wr.heap.size ∧ Below w.heap.size w wr) (fun x _ => m - (intOf x).toNat)
    case atStart =>
      refine ⟨0, none, 0, [], by omega, rfl, ((Lies.new w _ _).old _).old _, ?_, ?_, World.ownsRow_nil _ _ _ _, RowTr.nil _ _, by simp, (((Below.refl _ w).alloc (Nat.le_refl _) _).alloc (by simp) _).alloc (by simp; omega) _⟩
      · simpa using (Lies.new (w.alloc _) 24 #[.int .i64 0, .string ⟨#[]⟩, .int .i64 0, .int .i64 0, .slice none 0 0]).old _
      · simpa using Lies.new ((w.alloc _).alloc _) 24 #[.int .i64 k, .string s, .int .i64 n, .int .i64 0, .slice none 0 0]
    case round =>
      obtain ⟨i, B, bc, xs, hi, rfl, l0, l1, l2, hown, hrow, hsz, hbw⟩ := hrel
      have c4 := l0.five.1.2.2.2.2
      by_cases hlt : i < m
      · have hia : i < l.length := by omega
        obtain ⟨g, o, A', c', ⟨hA, _⟩, d0, d1, d2, d3, d4, hIn⟩ := TIn.part (TIn.below _ HI.out hbw (Nat.le_refl _)) i hia
        subst hA
        have hm3 := depthL_mem l (l[i]'hia) (List.getElem_mem hia)
        have hm4 := sizeL_mem l (l[i]'hia) (List.getElem_mem hia)
        have HS := Lib.hid (take_snoc_map bareT l i hia)
        simp only [Tr.parts] at d0 d1 d2 d3 d4 hIn
        obtain ⟨tr, hu⟩ : ∃ tr, tr = l[i]'hia := ⟨_, rfl⟩
        rw [← hu] at d0 d1 d2 d3 d4 hIn hm3 hm4 HS
        clear hu
        obtain ⟨tk, ts, tn, ta, tl⟩ := tr
        simp only [Tr.kind, Tr.name, Tr.n, Tr.place] at d0 d1 d2 d3 d4
        have e4 := l2.five.1.2.2.2.2
        have hg0 := (TIn.part HI.out i hia)
        obtain ⟨g0, o0, _, _, ⟨hA0, _⟩, hx0, _⟩ := hg0
        injection hA0 with hA0
        injection hA0 with hA0 hA1
        subst hA0 hA1
        have hgw := cell_lt hx0
        clear hx0
        have hS : ∀ W : World, (∀ b j, b < w.heap.size + 3 → W.cell? ⟨b, j, none⟩ = wr.cell? ⟨b, j, none⟩) → W.cell? ⟨w.heap.size + 1 + 1, 4, none⟩ = some (.slice B i bc) ∧ W.cell? ⟨w.heap.size, 4, none⟩ = some (.slice (some ⟨g, o, none⟩) m c) ∧ W.cell? ⟨g, o + i * 5, none⟩ = some (.int .i64 tk) ∧ W.cell? ⟨g, o + i * 5 + 1, none⟩ = some (.string ts) ∧ W.cell? ⟨g, o + i * 5 + 2, none⟩ = some (.int .i64 tn) ∧ W.cell? ⟨g, o + i * 5 + 3, none⟩ = some (.int .i64 ta) ∧ W.cell? ⟨g, o + i * 5 + 4, none⟩ = some (.slice A' tl.length (capF tl.length c')) := fun W hW =>
          ⟨(hW _ _ (by omega)).trans e4, (hW _ _ (by omega)).trans c4, (hW _ _ (by omega)).trans d0, (hW _ _ (by omega)).trans d1, (hW _ _ (by omega)).trans d2, (hW _ _ (by omega)).trans d3, (hW _ _ (by omega)).trans d4⟩
        have HSS := Lib.hid hS
        clear hS
        have hlto := hown.lt
        obtain ⟨i0, hi0, hz0, hz1, hz2⟩ := info_parts infoT
        go_wp2_with fail
        refine wp_region_K (S := fun W : World => W.cell? ⟨w.heap.size + 1 + 1, 4, none⟩ = some (.slice B i bc) ∧ W.cell? ⟨w.heap.size, 4, none⟩ = some (.slice (some ⟨g, o, none⟩) m c) ∧ W.cell? ⟨g, o + i * 5, none⟩ = some (.int .i64 tk) ∧ W.cell? ⟨g, o + i * 5 + 1, none⟩ = some (.string ts) ∧ W.cell? ⟨g, o + i * 5 + 2, none⟩ = some (.int .i64 tn) ∧ W.cell? ⟨g, o + i * 5 + 3, none⟩ = some (.int .i64 ta) ∧ W.cell? ⟨g, o + i * 5 + 4, none⟩ = some (.slice A' tl.length (capF tl.length c'))) 11 (by kernel_rfl) ⟨e4, c4, d0, d1, d2, d3, d4⟩ fun hS1 => ?_
        change wpAnyK _ _ _ _ _ _ 12 (Array.replicate 12 false) _ _
        clear e4 c4 d0 d1 d2 d3 d4
        refine wpAnyK_take (i := 0) (v := .pointer (some ⟨w.heap.size + 1 + 1, 4, none⟩)) rfl (by kernel_rfl) (by kernel_rfl) (by kernel_rfl) (by kernel_rfl) (fun _ _ _ h => h) (.inl ⟨by kernel_rfl, fun W hW => by kernel_rfl⟩) hS1 ?_
        try simp only [Act.put, List.setIfInBounds_toArray]
        refine wpAnyK_take (i := 1) (v := .slice B i bc) rfl (by kernel_rfl) (by kernel_rfl) (by kernel_rfl) (by kernel_rfl) (fun _ _ _ h => h) (.inl ⟨by kernel_rfl, fun W hW => by (obtain ⟨h0, h1, h2, h3, h4, h5, h6⟩ := hW; go_simp)⟩) hS1 ?_
        try simp only [Act.put]
        refine wpAnyK_take (i := 2) (v := .pointer (some ⟨w.heap.size, 4, none⟩)) rfl (by kernel_rfl) (by kernel_rfl) (by kernel_rfl) (by kernel_rfl) (fun _ _ _ h => h) (.inl ⟨by kernel_rfl, fun W hW => by kernel_rfl⟩) hS1 ?_
        try simp only [Act.put]
        refine wpAnyK_take (i := 3) (v := .slice (some ⟨g, o, none⟩) m c) rfl (by kernel_rfl) (by kernel_rfl) (by kernel_rfl) (by kernel_rfl) (fun _ _ _ h => h) (.inl ⟨by kernel_rfl, fun W hW => by (obtain ⟨h0, h1, h2, h3, h4, h5, h6⟩ := hW; go_simp)⟩) hS1 ?_
        try simp only [Act.put]
        refine wpAnyK_take (i := 4) (v := .int .i64 i) rfl (by kernel_rfl) (by kernel_rfl) (by kernel_rfl) (by kernel_rfl) (fun _ _ _ h => h) (.inl ⟨by kernel_rfl, fun W hW => by kernel_rfl⟩) hS1 ?_
        try simp only [Act.put]
        refine wpAnyK_take (i := 5) (v := .pointer (some ⟨g, o + i * 5, none⟩)) rfl (by kernel_rfl) (by kernel_rfl) (by kernel_rfl) (by kernel_rfl) (fun _ _ _ h => h) (.inl ⟨by kernel_rfl, fun W hW => by (obtain ⟨h0, h1, h2, h3, h4, h5, h6⟩ := hW; go_simp)⟩) hS1 ?_
        try simp only [Act.put]
        refine wpAnyK_take (i := 6) (v := .agg #[.int .i64 tk, .string ts, .int .i64 tn, .int .i64 ta, .slice A' tl.length (capF tl.length c')]) rfl (by kernel_rfl) (by kernel_rfl) (by kernel_rfl) (by kernel_rfl) (fun _ _ _ h => h) (.inl ⟨by kernel_rfl, fun W hW => by (obtain ⟨h0, h1, h2, h3, h4, h5, h6⟩ := hW; go_simp)⟩) hS1 ?_
        try simp only [Act.put]
        refine wpAnyK_one (i := 7) rfl rfl (by kernel_rfl) (fun K hK => ?_)
        go_wp2_with fail
        refine (ih (.node tk ts tn ta tl) A' c' wr.drew (by omega) (by omega) (TIn.below _ hIn ((Below.refl _ wr).drew) (Nat.le_refl _))).mono ?_
        rintro e w2 ⟨A2, c2, he, hT2, hb2⟩
        rw [tv_bare] at he
        simp only [Tr.kind, Tr.name, Tr.n, Tr.parts] at he
        subst he
        have hbr : Below wr.heap.size wr w2 := (Below.refl _ wr).drew.trans hb2
        have hs2 := hbr.size
        have k0 := l0.below hbr (by omega)
        have k1 := l1.below hbr (by omega)
        have k2 := l2.below hbr (by omega)
        have hown2 := own_below hown hbr (Nat.le_refl _)
        have hrow2 := hrow.below hbr (Nat.le_refl _)
        have hbw2 := hbw.trans (hbr.mono hbw.size)
        have K2 : ∀ b j, b < w.heap.size + 3 → w2.cell? ⟨b, j, none⟩ = wr.cell? ⟨b, j, none⟩ := fun b j hb => hbr.cell (p := ⟨b, j, none⟩) (by show b < _; omega)
        refine hK.out _ _ (fun _ => HSS.out _ K2) fun _ => ?_
        clear hK hS1 hbr hb2 hIn hown hrow hbw l0 l1 l2
        try simp only [Act.put, List.setIfInBounds_toArray, List.set_cons_zero, List.set_cons_succ]
        refine wpAnyK_one (i := 8) rfl rfl (by kernel_rfl) (fun K hK => ?_)
        go_wp2_with fail
        have K2a : ∀ b j, b < w.heap.size + 3 → (w2.alloc (.cells #[.int .i64 tk, .string ts, .int .i64 tn, .int .i64 0, .slice A2 tl.length (capF tl.length c2)] 24)).cell? ⟨b, j, none⟩ = wr.cell? ⟨b, j, none⟩ := fun b j hb => (World.cell?_alloc_lt w2 _ ⟨b, j, none⟩ (by show b < _; omega)).trans (K2 b j hb)
        refine hK.out _ _ (fun _ => HSS.out _ K2a) fun _ => ?_
        clear hK
        try simp only [Act.put, List.setIfInBounds_toArray, List.set_cons_zero, List.set_cons_succ]
        refine wpAnyK_one (i := 9) rfl rfl (by kernel_rfl) (fun K hK => ?_)
        refine wp_append_lies _ _ _ _ rfl (w.heap.size + 3) 24 i0 _ 5 64 Tryz.underlying22 hi0 hz0 hz1 hz2 rfl (by omega) (.slice B i bc) i xs rfl (hown2.alloc _)
                ⟨w2.heap.size, 0, none⟩ 1 1 [.int .i64 tk, .string ts, .int .i64 tn, .int .i64 0, .slice A2 tl.length (capF tl.length c2)] rfl rfl (World.news_of_block (cs := #[.int .i64 tk, .string ts, .int .i64 tn, .int .i64 0, .slice A2 tl.length (capF tl.length c2)]) (t := 24) (fr := (0, 0)) (heap_alloc_new w2 _)) (by simp [Value.oneCell'])
                (by omega) (by simp only [maxLen]; omega) (by omega) (by simp; omega) (w2.heap.size + 1) (by simp) ?_
        intro gg c3 w3 hown3 hg3 hat hltg
        have K3 : ∀ b j, b < w.heap.size + 3 → w3.cell? ⟨b, j, none⟩ = wr.cell? ⟨b, j, none⟩ := fun b j hb =>
          (World.cell?_of_block (hg3.block b (by simp; omega) (fun e => by have := (hlto b e.symm).1; omega))).trans (K2a b j hb)
        refine hK.out _ _ (fun _ => HSS.out _ K3) fun _ => ?_
        clear hK
        try simp only [Act.put, List.setIfInBounds_toArray]
        refine wpAnyK_one (i := 10) rfl rfl (by kernel_rfl) (fun K hK => ?_)
        go_wp2_with fail
        refine hK.out _ _ (fun _ => HSS.out _ K3) fun _ => ?_
        clear hK
        try simp only [Act.put, List.setIfInBounds_toArray, List.set_cons_zero, List.set_cons_succ]
        refine wpAnyK_one (i := 11) rfl rfl (by kernel_rfl) (fun K hK => ?_)
        have hs3 := hg3.size
        simp at hs3
        have hnb : ∀ b, b < w.heap.size + 3 → some b ≠ (Value.slice B i bc).ownBlock := fun b hb e => by have := (hlto b e.symm).1; omega
        have j0 := (k0.old (.cells #[.int .i64 tk, .string ts, .int .i64 tn, .int .i64 0, .slice A2 tl.length (capF tl.length c2)] 24)).grown hg3 (hnb _ (by omega))
        have j1 := (k1.old (.cells #[.int .i64 tk, .string ts, .int .i64 tn, .int .i64 0, .slice A2 tl.length (capF tl.length c2)] 24)).grown hg3 (hnb _ (by omega))
        have j2 := (k2.old (.cells #[.int .i64 tk, .string ts, .int .i64 tn, .int .i64 0, .slice A2 tl.length (capF tl.length c2)] 24)).grown hg3 (hnb _ (by omega))
        have hB3 : Below w.heap.size w w3 := (hbw2.alloc hbw2.size _).grown hg3 (by simp; omega) (fun q hq => by have := (hlto q hq).1; omega)
        have e4 := j2.five.1.2.2.2.2
        have f4 := j2.five.2.2.2.2.2
        have hfar : ∀ b j, b < w2.heap.size → some b ≠ (Value.slice B i bc).ownBlock → w3.cell? ⟨b, j, none⟩ = w2.cell? ⟨b, j, none⟩ ∧ some b ≠ (Value.slice (some ⟨gg, 0, none⟩) (i + 1) c3).ownBlock := fun b j hb hne => by
          refine ⟨(World.cell?_of_block (hg3.block b (by simp; omega) hne)).trans (World.cell?_alloc_lt w2 _ ⟨b, j, none⟩ hb), fun e => ?_⟩
          have e9 : b = gg := Option.some.inj e
          rcases hat with h | h
          · exact hne (by rw [h, e9])
          · omega
        have hrow3 : RowTr w3 (fun g => w.heap.size + 3 ≤ g ∧ some g ≠ (Value.slice (some ⟨gg, 0, none⟩) (i + 1) c3).ownBlock) ((l.take i).map bareT) xs :=
          hrow2.keep fun b j hX hb => ⟨(hfar b j hb hX.2).1, hX.1, (hfar b j hb hX.2).2⟩
        have hT3 : TIn w3 (fun g => w.heap.size + 3 ≤ g ∧ some g ≠ (Value.slice (some ⟨gg, 0, none⟩) (i + 1) c3).ownBlock) (bareT (.node tk ts tn ta tl)) A2 :=
          TIn.keep _ hT2 fun b j hX hb => by
            have hX' : wr.heap.size ≤ b := hX
            have hne : some b ≠ (Value.slice B i bc).ownBlock := fun e => by have := (hlto b e.symm).2; omega
            exact ⟨(hfar b j hb hne).1, by omega, (hfar b j hb hne).2⟩
        clear hi0 hz0 hz1 hz2 hg3 hat k0 k1 k2 hown2 hrow2 hfar hT2 K2 K2a K3
        go_wp2_with fail
        refine hK.out _ _ (fun h => absurd rfl h) fun _ => ?_
        clear hK
        try simp only [Act.put, List.setIfInBounds_toArray, List.set_cons_zero, List.set_cons_succ]
        refine wpAnyK_done (by kernel_rfl) ?_ _
        go_wp2_with fail
        go_roundw
        case rel =>
          refine ⟨i + 1, some ⟨gg, 0, none⟩, c3, xs ++ cellsT (bareT (.node tk ts tn ta tl)) A2 c2, by omega, by go_num, j0.far (by simp; omega) _, j1.far (by simp) _, by simpa using j2.put 4 (.slice (some ⟨gg, 0, none⟩) (i + 1) c3), ?_, ?_, by simp [World.setCell]; omega, hB3.setCell (by show w.heap.size ≤ w.heap.size + 1 + 1; omega) _⟩
          · have h5 : cellsT (bareT (.node tk ts tn ta tl)) A2 c2 = [.int .i64 tk, .string ts, .int .i64 tn, .int .i64 0, .slice A2 tl.length (capF tl.length c2)] := by
              rw [cellsT, bareT_kind, bareT_name, bareT_n, bareT_place, bareT_parts]; rfl
            rw [h5]
            exact ownsRow_setCell_below hown3 (by show w.heap.size + 1 + 1 < _; omega) _
          · rw [HS.out]
            exact (hrow3.snoc hT3).setCell _ _ (fun h => by have h9 : w.heap.size + 3 ≤ w.heap.size + 1 + 1 := h.1; omega)
        case measure => simp [intOf]; omega
      · have e0 := l2.five.1.1
        have e1 := l2.five.1.2.1
        have e2 := l2.five.1.2.2.1
        have e3 := l2.five.1.2.2.2.1
        have e4 := l2.five.1.2.2.2.2
        obtain ⟨⟨z0, z1, z2, z3, z4⟩, f0, f1, f2, f3, f4⟩ := l1.five
        go_wp2_with fail
        obtain rfl : i = m := by omega
        have hpl : (l.take i).map bareT = bareL l := by rw [bareL_map, List.take_of_length_le (by omega)]
        rw [hpl] at hrow
        have hbl := bareL_length l
        have hil : i = l.length := by omega
        refine bodyPost_ret (res_tree (p := 2) Tryz.results20 rfl (l1.all5 _ _ _ _ _)) rfl ⟨B, bc, ?_, ?_, ?_⟩
        · rw [tv_bare]
          simp only [Tr.kind, Tr.name, Tr.n, Tr.parts]
          rw [capF_of (show l.length ≤ bc by have := own_le hown; omega), hil]
        · rw [bareT, TIn]
          refine ⟨hss, by omega, ?_⟩
          have hL := hrow.owned (Y := fun g => w.heap.size + 3 ≤ g) hown (fun g hg => hg) (fun g hg _ => hg.1)
          refine LIn.keep _ hL fun g j hg _ => ⟨?_, by omega⟩
          have hne : ∀ q u, (⟨w.heap.size + 1, q, none⟩ : Addr) ≠ ⟨g, u, none⟩ := fun q u e => by injection e with e; omega
          rw [World.cell?_setCell_other _ _ _ _ (hne _ _), World.cell?_setCell_other _ _ _ _ (hne _ _), World.cell?_setCell_other _ _ _ _ (hne _ _), World.cell?_setCell_other _ _ _ _ (hne _ _), World.cell?_setCell_other _ _ _ _ (hne _ _)]
        · exact Below.all5 hbw (by omega) _ _ _ _ _
end Lx
end Go.Proofs.YtobdoahdjbmflaaGreatDoor
namespace Go.Proofs.YtobdoahdjbmflaaGreatDoor
open Go.RowKit
namespace Lx
set_option maxRecDepth 100000
/-- The class of a byte. -/
def clsV (c : Int) : Int := if lowR c = true then 1 else if upR c = true then 2 else if digR c = true then 3 else if blkR c = true then 4 else 0
set_option maxHeartbeats 1000000 in
theorem class_any (c : Int) (w : World) (h0 : 0 ≤ c) (h1 : c ≤ 255) : Calls Tryz.prog 56 #[.int .u8 c] w fun e w' => e = .returned (.int .i64 (clsV c)) ∧ w = w' := by
  have hc : (97 ≤ c ∧ c ≤ 122) ∨ (65 ≤ c ∧ c ≤ 90) ∨ (48 ≤ c ∧ c ≤ 57) ∨ c = 32 ∨ c = 10 ∨ c = 9 ∨ (122 < c) ∨ (90 < c ∧ c < 97) ∨ (57 < c ∧ c < 65) ∨ (32 < c ∧ c < 48) ∨ (10 < c ∧ c < 32) ∨ c < 9 := by omega
  rcases hc with ⟨a, b⟩ | ⟨a, b⟩ | ⟨a, b⟩ | rfl | rfl | rfl | a | ⟨a, b⟩ | ⟨a, b⟩ | ⟨a, b⟩ | ⟨a, b⟩ | a
  all_goals
    try have n1 : (c == 32) = false := by simp; omega
    try have n2 : (c == 10) = false := by simp; omega
    try have n3 : (c == 9) = false := by simp; omega
    go_enter Tryz.func56, Tryz.ntmps56
    go_wp2
  all_goals
    go_ret
    refine ⟨ret_int ?_, rfl⟩
    first
      | rfl
      | (simp [clsV, lowR, upR, digR, blkR, *]; done)
      | (have e1 : lowR c = false := by simp [lowR]; omega
         have e2 : upR c = false := by simp [upR]; omega
         have e3 : digR c = false := by simp [digR]; omega
         have e4 : blkR c = false := by simp [blkR]; omega
         simp [clsV, e1, e2, e3, e4]; done)
      | (have e1 : lowR c = false := by simp [lowR]; omega
         have e2 : upR c = false := by simp [upR]; omega
         have e3 : digR c = true := by simp [digR]; omega
         simp [clsV, e1, e2, e3]; done)
      | (have e1 : lowR c = false := by simp [lowR]; omega
         have e2 : upR c = true := by simp [upR]; omega
         simp [clsV, e1, e2]; done)

theorem rword_any (s : ByteArray) (w : World) : Calls Tryz.prog 86 #[.string s] w fun e w' => e = .returned (.bool (wordS s.data.toList)) ∧ w = w' := by
  go_enter Tryz.func86, Tryz.ntmps86
  go_wp2
  all_goals
    go_ret
    refine ⟨ret_bool ?_, rfl⟩
    rw [← data_list]
    simp_all [wordS, Bool.or_assoc]

set_option maxHeartbeats 1000000 in
theorem rnumber_any (s : ByteArray) (w : World) (hd : run digR s.data.toList = s.data.toList.length) (h18 : s.size ≤ 18) :
    Calls Tryz.prog 85 #[.string s] w fun e w' => e = .returned (.int .i64 (numV s.data.toList)) ∧ w = w' := by
  have HD := Lib.hid hd
  clear hd
  go_enter Tryz.func85, Tryz.ntmps85
  go_wp2_with fail
  go_loop [3, 4] (fun n a => ∃ k : Nat, k ≤ s.size ∧ a = .int .i64 k ∧ n = .int .i64 (numV (s.data.toList.take k))) (fun _ a => s.size - (intOf a).toNat)
  case atStart => exact ⟨0, Nat.zero_le _, rfl, rfl⟩
  case round =>
    obtain ⟨k, hk, rfl, rfl⟩ := hrel
    by_cases hlt : k < s.size
    · have hlen : k < s.data.toList.length := by simpa using hlt
      have hb : s.data.toList[k]'hlen = s[k] := by simp [ByteArray.getElem_eq_getElem_data]
      have hmem := dig_of digR _ HD.out (s.data.toList[k]'hlen) (List.getElem_mem hlen)
      have HS := Lib.hid (take_snoc s.data.toList k hlen)
      have hbd := numV_bd k (s.data.toList.take k) (by simp; omega) (fun c hc => dig_of digR _ HD.out c (List.mem_of_mem_take hc))
      have hp := pow_le17 k (by omega)
      rw [hb] at hmem HS
      have hd2 : 48 ≤ ((s[k]'hlt).toNat : Int) ∧ ((s[k]'hlt).toNat : Int) ≤ 57 := by simpa [digR] using hmem
      obtain ⟨hd3, hd4⟩ := hd2
      obtain ⟨hb3, hb4⟩ := hbd
      have hb5 : numV (s.data.toList.take k) ≤ 100000000000000000 := by omega
      clear hp hb4 hmem hb
      obtain ⟨N, hN⟩ : ∃ N, N = numV (s.data.toList.take k) := ⟨_, rfl⟩
      rw [← hN] at hb3 hb5 ⊢
      have HNN := Lib.hid hN
      clear hN
      go_wp2_with fail
      go_round
      case rel =>
        refine ⟨k + 1, by omega, by go_num, congrArg (Value.int .i64) ?_⟩
        rw [HS.out, numV_snoc, ← HNN.out]
        omega
      case measure => simp [intOf]; omega
    · go_wp2_with fail
      go_ret
      refine ⟨ret_int ?_, rfl⟩
      rw [List.take_of_length_le (by simp; omega)]
end Lx
end Go.Proofs.YtobdoahdjbmflaaGreatDoor
namespace Go.Proofs.YtobdoahdjbmflaaGreatDoor
open Go.RowKit
namespace Lx
set_option maxRecDepth 100000
theorem run_pos2 {P : Int → Bool} {c : UInt8} {q : List UInt8} (h : 0 < run P (c :: q)) : P (c.toNat : Int) = true := by
  by_cases hc : P (c.toNat : Int) = true
  · exact hc
  · simp [run, hc] at h
theorem run_lt_at (P : Int → Bool) : ∀ (l : List UInt8) (m : Nat), m < run P l → ∃ h : m < l.length, P ((l[m]'h).toNat : Int) = true
  | [], m, h => by simp [run] at h
  | c :: l, 0, h => ⟨by simp, run_pos2 h⟩
  | c :: l, m + 1, h => by
    cases hc : P (c.toNat : Int)
    · simp [run, hc] at h
    · simp [run, hc] at h
      obtain ⟨h1, h2⟩ := run_lt_at P l m h
      exact ⟨by simp; omega, by simpa using h2⟩
theorem run_stop_at (P : Int → Bool) : ∀ (l : List UInt8) (h : run P l < l.length), P ((l[run P l]'h).toNat : Int) = false
  | [], h => by simp at h
  | c :: l, h => by
    cases hc : P (c.toNat : Int)
    · simp [run, hc]
    · have h1 : run P l < l.length := by simp [run, hc] at h; omega
      have := run_stop_at P l h1
      simpa [run, hc] using this
theorem run_min (P Q : Int → Bool) (hPQ : ∀ x, P x = true → Q x = true) : ∀ l : List UInt8, run P l ≤ run Q l
  | [] => by simp [run]
  | c :: l => by
    have := run_min P Q hPQ l
    cases hc : P (c.toNat : Int)
    · simp [run, hc]
    · simp [run, hc, hPQ _ hc, this]

set_option maxHeartbeats 2000000 in
theorem rrun_any (s : ByteArray) (k : Nat) (w : World) (hk : k ≤ s.size) (hs : s.size ≤ 140737488351232) :
    Calls Tryz.prog 83 #[.string s, .int .i64 k] w fun e w' => e = .returned (.tuple #[.int .i64 (run ldR (s.data.toList.drop k)), .bool (decide (run digR (s.data.toList.drop k) < run ldR (s.data.toList.drop k)))]) ∧ w = w' := by
  obtain ⟨D, hD⟩ : ∃ D, D = s.data.toList.drop k := ⟨_, rfl⟩
  have hDl : D.length = s.size - k := by rw [hD, List.length_drop, Lib.size_eq]
  have hle := run_le ldR D
  rw [← hD]
  have HD := Lib.hid hD
  have HDL := Lib.hid hDl
  rw [hDl] at hle
  clear hD hDl
  go_enter Tryz.func83, Tryz.ntmps83
  go_wp2_with fail
  go_loop [6, 7] (fun a b => ∃ m : Nat, m ≤ run ldR D ∧ a = .int .i64 m ∧ b = .bool (decide (run digR D < m))) (fun a _ => s.size - (intOf a).toNat)
  case atStart => exact ⟨0, Nat.zero_le _, rfl, by simp⟩
  case round =>
    obtain ⟨m, hm, rfl, rfl⟩ := hrel
    by_cases hlt : k + m < s.size
    · have hmD : m < D.length := by rw [HDL.out]; omega
      obtain ⟨c, hc⟩ : ∃ c, c = s[k + m]'hlt := ⟨_, rfl⟩
      have hcD : D[m]'hmD = c := by
        rw [hc]
        have h1 : D[m]'hmD = (s.data.toList.drop k)[m]'(by rw [← HD.out]; exact hmD) := by congr 1
        rw [h1, List.getElem_drop]
        simp [ByteArray.getElem_eq_getElem_data]
      have hb0 : s[k + m]'hlt = c := hc.symm
      have HCD := Lib.hid hcD
      clear hc hcD
      have hcn : (c.toNat : Int) ≤ 255 := by have := c.toNat_lt; omega
      by_cases hin : m < run ldR D
      · obtain ⟨h1, h2⟩ := run_lt_at ldR D m hin
        rw [HCD.out] at h2
        by_cases hdg : digR (c.toNat : Int) = true
        · have hcl : clsV (c.toNat : Int) = 3 := by
            simp only [digR, Bool.and_eq_true, decide_eq_true_eq] at hdg
            have e1 : lowR (c.toNat : Int) = false := by simp [lowR]; omega
            have e2 : upR (c.toNat : Int) = false := by simp [upR]; omega
            have e3 : digR (c.toNat : Int) = true := by simp [digR, hdg]
            simp [clsV, e1, e2, e3]
          have HCL := Lib.hid hcl
          have HDG := Lib.hid hdg
          clear hcl hdg h2
          cases hL : decide (run digR D < m)
          all_goals
            go_wp2_with fail
            refine (class_any _ _ (by omega) hcn).mono ?_
            rintro e w' ⟨rfl, rfl⟩
            rw [HCL.out]
            go_wp2_with fail
            go_round
            case rel =>
              refine ⟨m + 1, by omega, by go_num, congrArg Value.bool ?_⟩
              have h3 : run digR D ≠ m := by
                intro e
                have := run_stop_at digR D (by rw [e]; exact hmD)
                simp only [e] at this
                rw [HCD.out, HDG.out] at this
                cases this
              simp at hL ⊢
              omega
            case measure => simp [intOf]; omega
        · have hno : run digR D ≤ m := by
            rcases Nat.lt_or_ge m (run digR D) with h3 | h3
            · obtain ⟨_, h4⟩ := run_lt_at digR D m h3
              rw [HCD.out] at h4
              exact absurd h4 hdg
            · exact h3
          have hcl : clsV (c.toNat : Int) = 1 ∨ clsV (c.toNat : Int) = 2 := by
            simp only [ldR, Bool.or_eq_true] at h2
            cases e1 : lowR (c.toNat : Int)
            · cases e2 : upR (c.toNat : Int)
              · rw [e1, e2] at h2
                simp at h2
                exact absurd h2 hdg
              · right; simp [clsV, e1, e2]
            · left; simp [clsV, e1]
          clear hdg h2
          rcases hcl with hcl | hcl
          all_goals
            have HCL := Lib.hid hcl
            clear hcl
            cases hL : decide (run digR D < m)
            all_goals
              go_wp2_with fail
              refine (class_any _ _ (by omega) hcn).mono ?_
              rintro e w' ⟨rfl, rfl⟩
              rw [HCL.out]
              go_wp2_with fail
              go_round
              case rel =>
                refine ⟨m + 1, by omega, by go_num, congrArg Value.bool ?_⟩
                simp
                omega
              case measure => simp [intOf]; omega
      · have hme : m = run ldR D := by omega
        have hst := run_stop_at ldR D (by rw [← hme]; exact hmD)
        simp only [← hme] at hst
        rw [HCD.out] at hst
        have hcl : clsV (c.toNat : Int) = 4 ∨ clsV (c.toNat : Int) = 0 := by
          simp only [ldR, Bool.or_eq_false_iff] at hst
          obtain ⟨e1, e2, e3⟩ := hst
          cases e4 : blkR (c.toNat : Int)
          · right; simp [clsV, e1, e2, e3, e4]
          · left; simp [clsV, e1, e2, e3, e4]
        have HME := Lib.hid hme
        clear hst hme
        rcases hcl with hcl | hcl
        all_goals
          have HCL := Lib.hid hcl
          clear hcl
          go_wp2_with fail
          refine (class_any _ _ (by omega) hcn).mono ?_
          rintro e w' ⟨rfl, rfl⟩
          rw [HCL.out]
          go_wp2_with fail
          go_ret2
          have hme := HME.out
          subst hme
          exact ⟨rfl, rfl⟩
    · go_wp2_with fail
      go_ret2
      have : m = run ldR D := by omega
      subst this
      exact ⟨rfl, rfl⟩
end Lx
end Go.Proofs.YtobdoahdjbmflaaGreatDoor
namespace Go.Proofs.YtobdoahdjbmflaaGreatDoor
open Go.RowKit
namespace Lx
set_option maxRecDepth 100000
def ones : List UInt8 := [92, 46, 40, 41, 61, 123, 125, 124, 43, 45, 42, 47, 60]
theorem one_at (k : Nat) (h : k < 13) (w : World) : (Instr.index 9 (.string ⟨#[92, 46, 40, 41, 61, 123, 125, 124, 43, 45, 42, 47, 60]⟩) (.int .i64 k)).run Tryz.prog w = .ok (.int .u8 ((ones.getD k 0).toNat : Int)) w := by
  have i0 : (Instr.index 9 (.string ⟨#[92, 46, 40, 41, 61, 123, 125, 124, 43, 45, 42, 47, 60]⟩) (.int .i64 0)).run Tryz.prog w = .ok (.int .u8 ((ones.getD 0 0).toNat : Int)) w := by kernel_rfl
  have i1 : (Instr.index 9 (.string ⟨#[92, 46, 40, 41, 61, 123, 125, 124, 43, 45, 42, 47, 60]⟩) (.int .i64 1)).run Tryz.prog w = .ok (.int .u8 ((ones.getD 1 0).toNat : Int)) w := by kernel_rfl
  have i2 : (Instr.index 9 (.string ⟨#[92, 46, 40, 41, 61, 123, 125, 124, 43, 45, 42, 47, 60]⟩) (.int .i64 2)).run Tryz.prog w = .ok (.int .u8 ((ones.getD 2 0).toNat : Int)) w := by kernel_rfl
  have i3 : (Instr.index 9 (.string ⟨#[92, 46, 40, 41, 61, 123, 125, 124, 43, 45, 42, 47, 60]⟩) (.int .i64 3)).run Tryz.prog w = .ok (.int .u8 ((ones.getD 3 0).toNat : Int)) w := by kernel_rfl
  have i4 : (Instr.index 9 (.string ⟨#[92, 46, 40, 41, 61, 123, 125, 124, 43, 45, 42, 47, 60]⟩) (.int .i64 4)).run Tryz.prog w = .ok (.int .u8 ((ones.getD 4 0).toNat : Int)) w := by kernel_rfl
  have i5 : (Instr.index 9 (.string ⟨#[92, 46, 40, 41, 61, 123, 125, 124, 43, 45, 42, 47, 60]⟩) (.int .i64 5)).run Tryz.prog w = .ok (.int .u8 ((ones.getD 5 0).toNat : Int)) w := by kernel_rfl
  have i6 : (Instr.index 9 (.string ⟨#[92, 46, 40, 41, 61, 123, 125, 124, 43, 45, 42, 47, 60]⟩) (.int .i64 6)).run Tryz.prog w = .ok (.int .u8 ((ones.getD 6 0).toNat : Int)) w := by kernel_rfl
  have i7 : (Instr.index 9 (.string ⟨#[92, 46, 40, 41, 61, 123, 125, 124, 43, 45, 42, 47, 60]⟩) (.int .i64 7)).run Tryz.prog w = .ok (.int .u8 ((ones.getD 7 0).toNat : Int)) w := by kernel_rfl
  have i8 : (Instr.index 9 (.string ⟨#[92, 46, 40, 41, 61, 123, 125, 124, 43, 45, 42, 47, 60]⟩) (.int .i64 8)).run Tryz.prog w = .ok (.int .u8 ((ones.getD 8 0).toNat : Int)) w := by kernel_rfl
  have i9 : (Instr.index 9 (.string ⟨#[92, 46, 40, 41, 61, 123, 125, 124, 43, 45, 42, 47, 60]⟩) (.int .i64 9)).run Tryz.prog w = .ok (.int .u8 ((ones.getD 9 0).toNat : Int)) w := by kernel_rfl
  have i10 : (Instr.index 9 (.string ⟨#[92, 46, 40, 41, 61, 123, 125, 124, 43, 45, 42, 47, 60]⟩) (.int .i64 10)).run Tryz.prog w = .ok (.int .u8 ((ones.getD 10 0).toNat : Int)) w := by kernel_rfl
  have i11 : (Instr.index 9 (.string ⟨#[92, 46, 40, 41, 61, 123, 125, 124, 43, 45, 42, 47, 60]⟩) (.int .i64 11)).run Tryz.prog w = .ok (.int .u8 ((ones.getD 11 0).toNat : Int)) w := by kernel_rfl
  have i12 : (Instr.index 9 (.string ⟨#[92, 46, 40, 41, 61, 123, 125, 124, 43, 45, 42, 47, 60]⟩) (.int .i64 12)).run Tryz.prog w = .ok (.int .u8 ((ones.getD 12 0).toNat : Int)) w := by kernel_rfl
  match k, h with
  | 0, _ => exact i0
  | 1, _ => exact i1
  | 2, _ => exact i2
  | 3, _ => exact i3
  | 4, _ => exact i4
  | 5, _ => exact i5
  | 6, _ => exact i6
  | 7, _ => exact i7
  | 8, _ => exact i8
  | 9, _ => exact i9
  | 10, _ => exact i10
  | 11, _ => exact i11
  | 12, _ => exact i12
/-- How long the sign at the beginning is; 0: there is none. -/
def sgnV (l : List UInt8) : Nat := match signOf l with | some g => g.length | none => 0
def twoV (c : UInt8) (r : List UInt8) : Bool := (c == 45 && r.head? == some 62) || (c == 61 && r.head? == some 61)
def inV (c : UInt8) : Int := if ones.contains c = true then 1 else 0
theorem sgn_cons (c : UInt8) (r : List UInt8) : sgnV (c :: r) = if twoV c r = true then 2 else if ones.contains c = true then 1 else 0 := by
  unfold sgnV signOf signsS
  simp only [Lib.hasPrefix]
  by_cases h1 : c = 45
  · subst h1
    cases r with
    | nil => rfl
    | cons d q =>
      by_cases h2 : d = 62
      · subst h2; rfl
      · have e : ((62 : UInt8) == d) = false := by simpa using fun h => h2 h.symm
        have e2 : (d == (62 : UInt8)) = false := by simpa using h2
        simp [List.find?, List.isPrefixOf, e, twoV, ones, h2]
  · by_cases h2 : c = 61
    · subst h2
      cases r with
      | nil => rfl
      | cons d q =>
        by_cases h3 : d = 61
        · subst h3; rfl
        · have e : ((61 : UInt8) == d) = false := by simpa using fun h => h3 h.symm
          simp [List.find?, List.isPrefixOf, e, twoV, ones, h3]
    · have e1 : ((45 : UInt8) == c) = false := by simpa using fun h => h1 h.symm
      have e2 : ((61 : UInt8) == c) = false := by simpa using fun h => h2 h.symm
      have et : twoV c r = false := by simp [twoV, h1, h2]
      rw [et]
      by_cases a1 : c = 92
      · subst a1; simp [List.find?, List.isPrefixOf, ones]
      by_cases a2 : c = 46
      · subst a2; simp [List.find?, List.isPrefixOf, ones]
      by_cases a3 : c = 40
      · subst a3; simp [List.find?, List.isPrefixOf, ones]
      by_cases a4 : c = 41
      · subst a4; simp [List.find?, List.isPrefixOf, ones]
      by_cases a5 : c = 123
      · subst a5; simp [List.find?, List.isPrefixOf, ones]
      by_cases a6 : c = 125
      · subst a6; simp [List.find?, List.isPrefixOf, ones]
      by_cases a7 : c = 124
      · subst a7; simp [List.find?, List.isPrefixOf, ones]
      by_cases a8 : c = 43
      · subst a8; simp [List.find?, List.isPrefixOf, ones]
      by_cases a9 : c = 42
      · subst a9; simp [List.find?, List.isPrefixOf, ones]
      by_cases a10 : c = 47
      · subst a10; simp [List.find?, List.isPrefixOf, ones]
      by_cases a11 : c = 60
      · subst a11; simp [List.find?, List.isPrefixOf, ones]
      have n : ∀ x : UInt8, c ≠ x → (x == c) = false := fun x h => by simpa using fun h' => h h'.symm
      simp [List.find?, List.isPrefixOf, ones, e1, e2, n _ a1, n _ a2, n _ a3, n _ a4, n _ a5, n _ a6, n _ a7, n _ a8, n _ a9, n _ a10, n _ a11, a1, a2, a3, a4, a5, a6, a7, a8, a9, a10, a11, h1, h2]

theorem u8_eq (c x : UInt8) : ((x.toNat : Int) == (c.toNat : Int)) = decide (x = c) := by
  rw [Bool.eq_iff_iff]
  simp only [beq_iff_eq, decide_eq_true_eq]
  constructor
  · intro h; apply UInt8.toNat_inj.1; omega
  · rintro rfl; rfl
theorem none_of (c : UInt8) (h : ∀ j, j < 13 → ones.getD j 0 ≠ c) : ones.contains c = false := by
  have h0 := h 0 (by omega)
  have h1 := h 1 (by omega)
  have h2 := h 2 (by omega)
  have h3 := h 3 (by omega)
  have h4 := h 4 (by omega)
  have h5 := h 5 (by omega)
  have h6 := h 6 (by omega)
  have h7 := h 7 (by omega)
  have h8 := h 8 (by omega)
  have h9 := h 9 (by omega)
  have h10 := h 10 (by omega)
  have h11 := h 11 (by omega)
  have h12 := h 12 (by omega)
  simp only [ones, List.getD_cons_zero, List.getD_cons_succ] at h0 h1 h2 h3 h4 h5 h6 h7 h8 h9 h10 h11 h12
  simp [ones, Ne.symm h0, Ne.symm h1, Ne.symm h2, Ne.symm h3, Ne.symm h4, Ne.symm h5, Ne.symm h6, Ne.symm h7, Ne.symm h8, Ne.symm h9, Ne.symm h10, Ne.symm h11, Ne.symm h12]
theorem some_of (c : UInt8) (j : Nat) (hj : j < 13) (h : ones.getD j 0 = c) : ones.contains c = true := by
  rw [← h, List.getD_eq_getElem?_getD, List.getElem?_eq_getElem (show j < ones.length from hj)]
  simp

set_option maxHeartbeats 2000000 in
theorem rsign_loop (s : ByteArray) (k : Nat) (c : UInt8) (w : World) (hk : k < s.size) (hs : s.size ≤ 140737488351232) (hc : s[k]'hk = c)
    (h2 : s.size ≤ k + 1 ∨ (k + 1 < s.size ∧ ∃ d, (s.extract k (k + 2)).toList = [c, d] ∧ ([c, d] == [45, 62]) = false ∧ ([c, d] == [61, 61]) = false)) :
    Calls Tryz.prog 84 #[.string s, .int .i64 k] w fun e w' => e = .returned (.int .i64 (inV c)) ∧ ∃ q, w' = w.drewN q := by
  have i0 : (0 : Int) ≤ (k : Int) := by omega
  have i1 : (k : Int) < (s.size : Int) := by omega
  rcases h2 with h2 | ⟨h2, d, hcut, n1, n2⟩
  all_goals
    first
      | (have h3 : ¬ (k : Int) + 1 < (s.size : Int) := by omega)
      | (have h3 : (k : Int) + 1 < (s.size : Int) := by omega
         have e1 : (k : Int) + 2 ≤ (s.size : Int) := by omega
         have e2 : (0 : Int) ≤ (k : Int) + 2 := by omega
         have e3 : (k : Int) ≤ (k : Int) + 2 := by omega)
    go_enter Tryz.func84, Tryz.ntmps84
    go_wp2_with fail
    go_loopw [5] (fun v wr => ∃ (j q : Nat), j ≤ 13 ∧ v = .int .i64 j ∧ wr = w.drewN q ∧ Hid (∀ x, x < j → ones.getD x 0 ≠ c)) (fun v _ => 13 - (intOf v).toNat)
    case atStart => exact ⟨0, 0, by omega, rfl, rfl, fun x hx => by omega⟩
    case round =>
      obtain ⟨j, q, hj, rfl, rfl, HQ⟩ := hrel
      by_cases hlt : j < 13
      · have hix := fun W => one_at j hlt W
        by_cases hq : ones.getD j 0 = c
        · have HC := Lib.hid (some_of c j hlt hq)
          have heq : (((ones.getD j 0).toNat : Int) == (c.toNat : Int)) = true := by rw [u8_eq]; simpa using hq
          generalize ones.getD j 0 = b at hix heq
          clear hq
          go_wp2_with fail
          go_quiet (fail)
          go_wp2_with fail
          go_ret
          refine ⟨ret_int ?_, q + nq, by first | rfl | rw [World.drewN_drewN]⟩
          unfold inV; rw [HC.out]; rfl
        · have HN := Lib.hid hq
          have heq : (((ones.getD j 0).toNat : Int) == (c.toNat : Int)) = false := by rw [u8_eq]; simpa using hq
          have HNJ : Hid (∀ x, x < j + 1 → ones.getD x 0 ≠ c) := fun x hx => by
            rcases Nat.lt_or_ge x j with h | h
            · exact HQ.out x h
            · obtain rfl : x = j := by omega
              exact HN.out
          clear hq HN
          generalize ones.getD j 0 = b at hix heq
          go_wp2_with fail
          go_quiet (fail)
          go_wp2_with fail
          go_roundw
          case rel => exact ⟨j + 1, q + nq, by omega, by go_num, by first | rfl | rw [World.drewN_drewN], HNJ⟩
          case measure => simp [intOf]; omega
      · go_wp2_with fail
        go_ret
        obtain rfl : j = 13 := by omega
        refine ⟨ret_int ?_, q, rfl⟩
        unfold inV; rw [none_of c HQ.out]; rfl

set_option maxHeartbeats 1000000 in
theorem rsign_two (s : ByteArray) (k : Nat) (c d : UInt8) (w : World) (hk : k + 1 < s.size) (hs : s.size ≤ 140737488351232)
    (hcut : (s.extract k (k + 2)).toList = [c, d]) (h : (c = 45 ∧ d = 62) ∨ (c = 61 ∧ d = 61)) :
    Calls Tryz.prog 84 #[.string s, .int .i64 k] w fun e w' => e = .returned (.int .i64 2) ∧ w = w' := by
  have i0 : (0 : Int) ≤ (k : Int) := by omega
  have i1 : (k : Int) < (s.size : Int) := by omega
  have h3 : (k : Int) + 1 < (s.size : Int) := by omega
  have e1 : (k : Int) + 2 ≤ (s.size : Int) := by omega
  have e2 : (0 : Int) ≤ (k : Int) + 2 := by omega
  have e3 : (k : Int) ≤ (k : Int) + 2 := by omega
  rcases h with ⟨rfl, rfl⟩ | ⟨rfl, rfl⟩
  all_goals
    go_enter Tryz.func84, Tryz.ntmps84
    go_wp2_with fail
    go_ret
    exact ⟨rfl, rfl⟩

theorem rsign_any (s : ByteArray) (k : Nat) (w : World) (hk : k < s.size) (hs : s.size ≤ 140737488351232) :
    Calls Tryz.prog 84 #[.string s, .int .i64 k] w fun e w' => e = .returned (.int .i64 (sgnV (s.data.toList.drop k))) ∧ ∃ q, w' = w.drewN q := by
  have hlen : k < s.data.toList.length := by simpa using hk
  have hb : s.data.toList[k]'hlen = s[k]'hk := by simp [ByteArray.getElem_eq_getElem_data]
  have hD := List.drop_eq_getElem_cons hlen
  rw [hb] at hD
  by_cases h1 : k + 1 < s.size
  · have hlen1 : k + 1 < s.data.toList.length := by simpa using h1
    have hb1 : s.data.toList[k + 1]'hlen1 = s[k + 1]'h1 := by simp [ByteArray.getElem_eq_getElem_data]
    have hD1 := List.drop_eq_getElem_cons hlen1
    rw [hb1] at hD1
    rw [hD1] at hD
    have hcut : (s.extract k (k + 2)).toList = [s[k]'hk, s[k + 1]'h1] := by
      rw [data_list, Lib.extract_data, show k + 2 - k = 2 from by omega, hD]; rfl
    by_cases ht : (s[k]'hk = 45 ∧ s[k + 1]'h1 = 62) ∨ (s[k]'hk = 61 ∧ s[k + 1]'h1 = 61)
    · refine (rsign_two s k _ _ w h1 hs hcut ht).mono ?_
      rintro e w' ⟨rfl, rfl⟩
      refine ⟨ret_int ?_, 0, rfl⟩
      rw [hD, sgn_cons, if_pos (by rcases ht with ⟨a, b⟩ | ⟨a, b⟩ <;> simp [twoV, a, b])]
      rfl
    · have n1 : ([s[k]'hk, s[k + 1]'h1] == [45, 62]) = false := by
        simp only [beq_eq_false_iff_ne, ne_eq, List.cons.injEq, and_true]
        exact fun h => ht (.inl h)
      have n2 : ([s[k]'hk, s[k + 1]'h1] == [61, 61]) = false := by
        simp only [beq_eq_false_iff_ne, ne_eq, List.cons.injEq, and_true]
        exact fun h => ht (.inr h)
      refine (rsign_loop s k _ w hk hs rfl (.inr ⟨h1, _, hcut, n1, n2⟩)).mono ?_
      rintro e w' ⟨rfl, hq⟩
      refine ⟨ret_int ?_, hq⟩
      rw [hD, sgn_cons, if_neg (by
        intro h
        apply ht
        simp only [twoV, Bool.or_eq_true, Bool.and_eq_true, beq_iff_eq, List.head?_cons, Option.some.injEq] at h
        exact h)]
      unfold inV; split <;> rfl
  · refine (rsign_loop s k _ w hk hs rfl (.inl (by omega))).mono ?_
    rintro e w' ⟨rfl, hq⟩
    refine ⟨ret_int ?_, hq⟩
    rw [hD, List.drop_eq_nil_of_le (by rw [← Lib.size_eq]; omega), sgn_cons, if_neg (by simp [twoV])]
    unfold inV; split <;> rfl
end Lx
end Go.Proofs.YtobdoahdjbmflaaGreatDoor
namespace Go.Proofs.YtobdoahdjbmflaaGreatDoor
open Go.RowKit
namespace Lx
set_option maxRecDepth 100000
theorem res_tok2 {fn : Func} {p q : Tmp} (h : fn.results = #[.cell p 71, .tmp q]) {tmps : Array Value} {g : Nat} {a b c d : Value} {w : World} (hp : tmps.getD p undef = .pointer (some ⟨g, 0, none⟩)) (L : Lies w g 71 #[a, b, c, d]) :
    (results fn tmps).run Tryz.prog w = .ok (.tuple #[.agg #[a, b, c, d], tmps.getD q undef]) w := by
  have hl := run_loadVar_row (P := Tryz.prog) w g 71 71 #[a, b, c, d] (0, 0) _ L Tryz.underlying71 rfl (by kernel_rfl)
  have hp' : tmps[p]?.getD undef = .pointer (some ⟨g, 0, none⟩) := by simpa using hp
  simp only [results, h]
  simp [hp', asAddr, hl]
theorem cut_mid (s : ByteArray) (k n : Nat) : s.extract k (k + n) = ⟨((s.data.toList.drop k).take n).toArray⟩ := by
  rw [← toBytes (s.extract k (k + n)), Lib.extract_data, show k + n - k = n from by omega]
def noTokR (x : Int) : Value := .tuple #[.agg #[.int .i64 0, .string ⟨#[]⟩, .int .i64 0, .int .i64 0], .int .i64 x]
def tokR (kd n : Int) (t : List UInt8) (k : Nat) : Value := .tuple #[.agg #[.int .i64 kd, .string ⟨t.toArray⟩, .int .i64 n, .int .i64 k], .int .i64 0]

set_option maxHeartbeats 2000000 in
theorem one_sign (s : ByteArray) (k : Nat) (w : World) (hk : k < s.size) (hs : s.size ≤ 140737488351232) (h0 : run ldR (s.data.toList.drop k) = 0) (g : Nat) (hg : sgnV (s.data.toList.drop k) = g) (hg0 : 0 < g) (hle : k + g ≤ s.size) :
    Calls Tryz.prog 57 #[.string s, .int .i64 k] w fun e w' => e = .returned (tokR 5 0 ((s.data.toList.drop k).take g) k) ∧ Below w.heap.size w w' := by
  have HR := Lib.hid (rrun_any s k (w.alloc (.cells #[.int .i64 0, .string ⟨#[]⟩, .int .i64 0, .int .i64 0] 71)) (by omega) hs)
  rw [h0] at HR
  have HS := Lib.hid (rsign_any s k (w.alloc (.cells #[.int .i64 0, .string ⟨#[]⟩, .int .i64 0, .int .i64 0] 71)) hk hs)
  rw [hg] at HS
  have HC := Lib.hid (cut_mid s k g)
  have hg1 : ((g : Int) == 0) = false := by simp; omega
  have e1 : (k : Int) + (g : Int) ≤ (s.size : Int) := by omega
  have e2 : (0 : Int) ≤ (k : Int) + (g : Int) := by omega
  have e3 : (k : Int) ≤ (k : Int) + (g : Int) := by omega
  have e4 : (0 : Int) ≤ (k : Int) := by omega
  clear h0 hg
  unfold tokR
  go_enter Tryz.func57, Tryz.ntmps57
  go_wp2_with fail
  refine HR.out.mono ?_
  rintro e w' ⟨rfl, rfl⟩
  go_wp2_with fail
  refine HS.out.mono ?_
  rintro e w' ⟨rfl, q, rfl⟩
  have hL := (Lies.new w 71 #[.int .i64 0, .string ⟨#[]⟩, .int .i64 0, .int .i64 0]).drewN q
  obtain ⟨⟨c0, c1, c2, c3⟩, f0, f1, f2, f3⟩ := hL.four
  go_wp2_with fail
  refine bodyPost_ret (res_tok2 (p := 4) (q := 5) Tryz.results57 rfl (hL.all _ _ _ _)) rfl ⟨?_, Below.all (below_drewN ((Below.refl _ w).alloc (Nat.le_refl _) _) q) (Nat.le_refl _) _ _ _ _⟩
  rw [HC.out]; rfl
set_option maxHeartbeats 2000000 in
theorem one_none (s : ByteArray) (k : Nat) (w : World) (hk : k < s.size) (hs : s.size ≤ 140737488351232) (h0 : run ldR (s.data.toList.drop k) = 0) (hg : sgnV (s.data.toList.drop k) = 0) :
    Calls Tryz.prog 57 #[.string s, .int .i64 k] w fun e w' => e = .returned (noTokR 10) ∧ Below w.heap.size w w' := by
  have HR := Lib.hid (rrun_any s k (w.alloc (.cells #[.int .i64 0, .string ⟨#[]⟩, .int .i64 0, .int .i64 0] 71)) (by omega) hs)
  rw [h0] at HR
  have HS := Lib.hid (rsign_any s k (w.alloc (.cells #[.int .i64 0, .string ⟨#[]⟩, .int .i64 0, .int .i64 0] 71)) hk hs)
  rw [hg] at HS
  clear h0 hg
  unfold noTokR
  go_enter Tryz.func57, Tryz.ntmps57
  go_wp2_with fail
  refine HR.out.mono ?_
  rintro e w' ⟨rfl, rfl⟩
  go_wp2_with fail
  refine HS.out.mono ?_
  rintro e w' ⟨rfl, q, rfl⟩
  have hL := (Lies.new w 71 #[.int .i64 0, .string ⟨#[]⟩, .int .i64 0, .int .i64 0]).drewN q
  obtain ⟨⟨c0, c1, c2, c3⟩, f0, f1, f2, f3⟩ := hL.four
  go_wp2_with fail
  exact bodyPost_ret (res_tok2 (p := 4) (q := 5) Tryz.results57 rfl (hL.all _ _ _ _)) rfl ⟨rfl, Below.all (below_drewN ((Below.refl _ w).alloc (Nat.le_refl _) _) q) (Nat.le_refl _) _ _ _ _⟩
/-- What the walks of letters and digits share. -/
structure RunAt (s : ByteArray) (k n : Nat) (c : UInt8) (b : Bool) : Prop where
  hk : k < s.size
  hs : s.size ≤ 140737488351232
  hc : s[k]'hk = c
  hn : run ldR (s.data.toList.drop k) = n
  hb : decide (run digR (s.data.toList.drop k) < n) = b
theorem RunAt.le {s : ByteArray} {k n : Nat} {c : UInt8} {b : Bool} (h : RunAt s k n c b) : k + n ≤ s.size := by
  have := run_le ldR (s.data.toList.drop k)
  have h1 := h.hn
  have h2 := h.hk
  rw [List.length_drop, ← Lib.size_eq] at this
  omega
theorem RunAt.run {s : ByteArray} {k n : Nat} {c : UInt8} {b : Bool} (h : RunAt s k n c b) (w : World) :
    Calls Tryz.prog 83 #[.string s, .int .i64 k] w fun e w' => e = .returned (.tuple #[.int .i64 n, .bool b]) ∧ w = w' := by
  refine (rrun_any s k w (by have := h.hk; omega) h.hs).mono ?_
  rintro e w' ⟨rfl, rfl⟩
  exact ⟨by rw [h.hn, h.hb], rfl⟩
theorem u8_bd (c : UInt8) : (0 : Int) ≤ (c.toNat : Int) ∧ (c.toNat : Int) ≤ 255 := by have := c.toNat_lt; omega

set_option maxHeartbeats 2000000 in
theorem one_err (s : ByteArray) (k n : Nat) (c : UInt8) (b : Bool) (w : World) (h : RunAt s k n c b) (hn0 : 0 < n) (x : Int)
    (hx : (digR (c.toNat : Int) = true ∧ b = true ∧ x = 10) ∨ (digR (c.toNat : Int) = true ∧ b = false ∧ 18 < n ∧ x = 11) ∨ (digR (c.toNat : Int) = true ∧ b = false ∧ ¬ 18 < n ∧ 1 < n ∧ c = 48 ∧ x = 11) ∨
      (digR (c.toNat : Int) = false ∧ 16 < n ∧ (clsV (c.toNat : Int) == 3) = false ∧ x = 11)) :
    Calls Tryz.prog 57 #[.string s, .int .i64 k] w fun e w' => e = .returned (noTokR x) ∧ Below w.heap.size w w' := by
  have HR := Lib.hid h.run
  have hle := h.le
  have HC := fun w => class_any (c.toNat : Int) w (u8_bd c).1 (u8_bd c).2
  have hk := h.hk
  have hb0 : s[k]'hk = c := h.hc
  have hs := h.hs
  have hn1 : ((n : Int) == 0) = false := by simp; omega
  have e1 : (k : Int) + (n : Int) ≤ (s.size : Int) := by omega
  have e2 : (0 : Int) ≤ (k : Int) + (n : Int) := by omega
  have e3 : (k : Int) ≤ (k : Int) + (n : Int) := by omega
  have e4 : (0 : Int) ≤ (k : Int) := by omega
  have e5 : (k : Int) < (s.size : Int) := by omega
  have h3 : ∀ hd : digR (c.toNat : Int) = true, clsV (c.toNat : Int) = 3 := fun hd => by
    have a1 : lowR (c.toNat : Int) = false := by simp [digR] at hd; simp [lowR]; omega
    have a2 : upR (c.toNat : Int) = false := by simp [digR] at hd; simp [upR]; omega
    simp [clsV, a1, a2, hd]
  clear h
  unfold noTokR
  rcases hx with ⟨hd, rfl, rfl⟩ | ⟨hd, rfl, g18, rfl⟩ | ⟨hd, rfl, g18, g1, rfl, rfl⟩ | ⟨hd, g16, hc3, rfl⟩
  case inr.inr.inr =>
    have HCC := Lib.hid HC
    have g16' : (16 : Int) < (n : Int) := by omega
    generalize clsV (c.toNat : Int) = v at HCC hc3
    clear HC h3 hd
    go_enter Tryz.func57, Tryz.ntmps57
    go_wp2_with fail
    refine (HR.out _).mono ?_
    rintro e w' ⟨rfl, rfl⟩
    go_wp2_with fail
    refine (HCC.out _).mono ?_
    rintro e w' ⟨rfl, rfl⟩
    have hL := (Lies.new w 71 #[.int .i64 0, .string ⟨#[]⟩, .int .i64 0, .int .i64 0]).old (.cells #[.int .i64 0, .string (s.extract k (k + n)), .int .i64 0, .int .i64 k] 71)
    go_wp2_with fail
    exact bodyPost_ret (res_tok2 (p := 4) (q := 5) Tryz.results57 rfl hL) rfl ⟨rfl, ((Below.refl _ w).alloc (Nat.le_refl _) _).alloc (by simp) _⟩
  all_goals
    rw [h3 hd] at HC
    have HCC := Lib.hid HC
    clear HC h3 hd
    go_enter Tryz.func57, Tryz.ntmps57
    go_wp2_with fail
    refine (HR.out _).mono ?_
    rintro e w' ⟨rfl, rfl⟩
    go_wp2_with fail
    refine (HCC.out _).mono ?_
    rintro e w' ⟨rfl, rfl⟩
    have hL := (Lies.new w 71 #[.int .i64 0, .string ⟨#[]⟩, .int .i64 0, .int .i64 0]).old (.cells #[.int .i64 0, .string (s.extract k (k + n)), .int .i64 0, .int .i64 k] 71)
    go_wp2_with fail
    exact bodyPost_ret (res_tok2 (p := 4) (q := 5) Tryz.results57 rfl hL) rfl ⟨rfl, ((Below.refl _ w).alloc (Nat.le_refl _) _).alloc (by simp) _⟩
set_option maxHeartbeats 2000000 in
theorem one_num (s : ByteArray) (k n : Nat) (c : UInt8) (w : World) (h : RunAt s k n c false) (hn0 : 0 < n) (hd : digR (c.toNat : Int) = true) (h18 : ¬ 18 < n) (h0 : n ≤ 1 ∨ (1 < n ∧ ((c.toNat : Int) == 48) = false)) (hall : run digR ((s.data.toList.drop k).take n) = n) :
    Calls Tryz.prog 57 #[.string s, .int .i64 k] w fun e w' => e = .returned (tokR 3 (numV ((s.data.toList.drop k).take n)) ((s.data.toList.drop k).take n) k) ∧ Below w.heap.size w w' := by
  have HR := Lib.hid h.run
  have hle := h.le
  have HC := fun w => class_any (c.toNat : Int) w (u8_bd c).1 (u8_bd c).2
  have hk := h.hk
  have hb0 : s[k]'hk = c := h.hc
  have hs := h.hs
  have hn1 : ((n : Int) == 0) = false := by simp; omega
  have e1 : (k : Int) + (n : Int) ≤ (s.size : Int) := by omega
  have e2 : (0 : Int) ≤ (k : Int) + (n : Int) := by omega
  have e3 : (k : Int) ≤ (k : Int) + (n : Int) := by omega
  have e4 : (0 : Int) ≤ (k : Int) := by omega
  have e5 : (k : Int) < (s.size : Int) := by omega
  have e6 : ¬ (18 : Int) < (n : Int) := by omega
  have h3 : clsV (c.toNat : Int) = 3 := by
    have a1 : lowR (c.toNat : Int) = false := by simp [digR] at hd; simp [lowR]; omega
    have a2 : upR (c.toNat : Int) = false := by simp [digR] at hd; simp [upR]; omega
    simp [clsV, a1, a2, hd]
  rw [h3] at HC
  have HCC := Lib.hid HC
  obtain ⟨tx, htx⟩ : ∃ tx, tx = s.extract k (k + n) := ⟨_, rfl⟩
  have hdat : tx.data.toList = (s.data.toList.drop k).take n := by rw [htx, Lib.extract_data, show k + n - k = n from by omega]
  have htl : ((s.data.toList.drop k).take n).length = n := by rw [List.length_take, List.length_drop, ← Lib.size_eq]; omega
  have HNm := Lib.hid (fun w => rnumber_any tx w (by rw [hdat, hall, htl]) (by rw [Lib.size_eq, hdat, htl]; omega))
  have HTX : Hid ((⟨((s.data.toList.drop k).take n).toArray⟩ : ByteArray) = tx) := by
    show _ = _
    rw [htx, cut_mid]
  have HDT := Lib.hid hdat
  have HX := Lib.hid htx
  clear h HC h3 hd hdat htx hall htl
  unfold tokR
  rcases h0 with h0 | ⟨h0, h1⟩
  all_goals
    go_enter Tryz.func57, Tryz.ntmps57
    go_wp2_with fail
    refine (HR.out _).mono ?_
    rintro e w' ⟨rfl, rfl⟩
    go_wp2_with fail
    rw [← HX.out]
    refine (HCC.out _).mono ?_
    rintro e w' ⟨rfl, rfl⟩
    go_wp2_with fail
    refine (HNm.out _).mono ?_
    rintro e w' ⟨rfl, rfl⟩
    rw [HDT.out]
    have hL := (Lies.new w 71 #[.int .i64 3, .string tx, .int .i64 (numV ((s.data.toList.drop k).take n)), .int .i64 k]).old (.cells #[.int .i64 3, .string tx, .int .i64 (numV ((s.data.toList.drop k).take n)), .int .i64 k] 71)
    go_wp2_with fail
    exact bodyPost_ret (res_tok2 (p := 4) (q := 5) Tryz.results57 rfl hL) rfl ⟨by rw [HTX.out]; rfl, ((Below.refl _ w).alloc (Nat.le_refl _) _).alloc (by simp) _⟩
set_option maxHeartbeats 2000000 in
theorem one_word (s : ByteArray) (k n : Nat) (c : UInt8) (b : Bool) (w : World) (h : RunAt s k n c b) (hn0 : 0 < n) (v : Int) (hv : clsV (c.toNat : Int) = v) (h3 : (v == 3) = false) (h16 : ¬ 16 < n) (wd : Bool) (hw : wordS ((s.data.toList.drop k).take n) = wd) :
    Calls Tryz.prog 57 #[.string s, .int .i64 k] w fun e w' => e = .returned (tokR (cond wd 4 v) 0 ((s.data.toList.drop k).take n) k) ∧ Below w.heap.size w w' := by
  have HR := Lib.hid h.run
  have hle := h.le
  have HC := fun w => class_any (c.toNat : Int) w (u8_bd c).1 (u8_bd c).2
  have hk := h.hk
  have hb0 : s[k]'hk = c := h.hc
  have hs := h.hs
  have hn1 : ((n : Int) == 0) = false := by simp; omega
  have e1 : (k : Int) + (n : Int) ≤ (s.size : Int) := by omega
  have e2 : (0 : Int) ≤ (k : Int) + (n : Int) := by omega
  have e3 : (k : Int) ≤ (k : Int) + (n : Int) := by omega
  have e4 : (0 : Int) ≤ (k : Int) := by omega
  have e5 : (k : Int) < (s.size : Int) := by omega
  have e6 : ¬ (16 : Int) < (n : Int) := by omega
  rw [hv] at HC
  have HCC := Lib.hid HC
  obtain ⟨tx, htx⟩ : ∃ tx, tx = s.extract k (k + n) := ⟨_, rfl⟩
  have hdat : tx.data.toList = (s.data.toList.drop k).take n := by rw [htx, Lib.extract_data, show k + n - k = n from by omega]
  have HW := fun w => rword_any tx w
  rw [hdat, hw] at HW
  have HWW := Lib.hid HW
  have HTX : Hid ((⟨((s.data.toList.drop k).take n).toArray⟩ : ByteArray) = tx) := by
    show _ = _
    rw [htx, cut_mid]
  have HX := Lib.hid htx
  clear h HC hv hdat htx HW hw
  unfold tokR
  cases wd
  all_goals
    go_enter Tryz.func57, Tryz.ntmps57
    go_wp2_with fail
    refine (HR.out _).mono ?_
    rintro e w' ⟨rfl, rfl⟩
    go_wp2_with fail
    rw [← HX.out]
    refine (HCC.out _).mono ?_
    rintro e w' ⟨rfl, rfl⟩
    go_wp2_with fail
    refine (HWW.out _).mono ?_
    rintro e w' ⟨rfl, rfl⟩
  · have hL := (Lies.new w 71 #[.int .i64 v, .string tx, .int .i64 0, .int .i64 k]).old (.cells #[.int .i64 v, .string tx, .int .i64 0, .int .i64 k] 71)
    go_wp2_with fail
    exact bodyPost_ret (res_tok2 (p := 4) (q := 5) Tryz.results57 rfl hL) rfl ⟨by rw [HTX.out]; rfl, ((Below.refl _ w).alloc (Nat.le_refl _) _).alloc (by simp) _⟩
  · have hL := (Lies.new w 71 #[.int .i64 4, .string tx, .int .i64 0, .int .i64 k]).old (.cells #[.int .i64 4, .string tx, .int .i64 0, .int .i64 k] 71)
    go_wp2_with fail
    exact bodyPost_ret (res_tok2 (p := 4) (q := 5) Tryz.results57 rfl hL) rfl ⟨by rw [HTX.out]; rfl, ((Below.refl _ w).alloc (Nat.le_refl _) _).alloc (by simp) _⟩
end Lx
end Go.Proofs.YtobdoahdjbmflaaGreatDoor
