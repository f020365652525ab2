/-
  Texts that lie one behind the other: NlO NlP NdP Nw NlQ.
-/
import Derived.Test.YtceblpjlklogpaaDoorC3
import Derived.Test.YtceblpjlklogpaaDoorC1
namespace Go.Proofs.YtceblpjlklogpaaDoor
open Go Go.RowKit
namespace Lx
set_option maxRecDepth 100000
/-- The ports of all nodes. -/
def portsOf : List Nd → List (Int × Int)
  | [] => []
  | x :: r => x.to ++ portsOf r
theorem portsOf_snoc (l : List Nd) (x : Nd) : portsOf (l ++ [x]) = portsOf l ++ x.to := by
  induction l with
  | nil => simp [portsOf]
  | cons a r ih => simp only [List.cons_append, portsOf, ih, List.append_assoc]
theorem portsOf_take (l : List Nd) (i : Nat) (h : i < l.length) : portsOf (l.take (i + 1)) = portsOf (l.take i) ++ (ndAt l i).to := by
  rw [List.take_succ_eq_append_getElem h, portsOf_snoc, ndAt_lt h]
theorem portsOf_drop (l : List Nd) (i : Nat) (h : i < l.length) : portsOf (l.drop i) = (ndAt l i).to ++ portsOf (l.drop (i + 1)) := by
  rw [List.drop_eq_getElem_cons h, portsOf, ndAt_lt h]
theorem portsOf_le (l : List Nd) (K : Nat) (h : ∀ i, i < l.length → (ndAt l i).to.length ≤ K) : ∀ i, i ≤ l.length → (portsOf (l.take i)).length ≤ i * K
  | 0, _ => by simp [portsOf]
  | i + 1, hi => by
    have h1 := portsOf_le l K h i (by omega)
    have h2 := h i (by omega)
    rw [portsOf_take l i (by omega), List.length_append, Nat.succ_mul]
    omega
theorem cellsTo_app (l m : List (Int × Int)) : cellsTo (l ++ m) = cellsTo l ++ cellsTo m := by
  induction l with
  | nil => rfl
  | cons a r ih => simp only [List.cons_append, cellsTo, ih]
theorem run_append_noneN {P : Program} {t e ty : TypeId} {i : TypeInfo} (ht : P.underlying t = some (.slice e)) (hi : P.info? e = some i) (g n cap k : Nat) (hc : n ≤ cap) (w : World) :
    (Builtin.append_ #[t, t] ty #[.slice (some ⟨g, 0, none⟩) n cap, .slice none 0 k]).run P w = .ok (.slice (some ⟨g, 0, none⟩) n cap) w := by
  simp [Builtin.append_, run_underlying ht, sizeOf, typeInfo, hi, Builtin.lenOf, Builtin.firstCells, loadCells, storeCells, hc]
theorem grownN_refl (w : World) (row : Option Nat) : w.grownBy w row := ⟨rfl, rfl, rfl, Nat.le_refl _, fun _ _ _ => rfl⟩
/-- A node's ports appended to a row of the call's own, nil or not. -/
theorem wp_append_ports {o : Oper} {a : Act} {w : World} {K : Act → World → Prop} {Q : Exit → Act → World → Prop} (s x : Operand)
    (ho : o.op = .call { callee := .builtin .append, args := #[s, x], argTypes := #[26, 26] })
    (base : Nat) (ys zs : List (Int × Int)) (gs n cs : Nat) (hn : n = ys.length) (hs : a.eval s = .slice (some ⟨gs, 0, none⟩) n cs) (hown : w.ownsRow base 46 2 (.slice (some ⟨gs, 0, none⟩) n cs) n (cellsTo ys))
    (B : Option Addr) (m c : Nat) (hm : m = zs.length) (hx : a.eval x = .slice B m c) (X : Nat → Prop) (hz : ToIn w X zs B) (hl : n + m ≤ 100000000000) (hbase : base ≤ w.heap.size)
    (h : ∀ g c' w', w'.ownsRow base 46 2 (.slice (some ⟨g, 0, none⟩) (n + m) c') (n + m) (cellsTo (ys ++ zs)) → w.grownBy w' (Value.slice (some ⟨gs, 0, none⟩) n cs).ownBlock → K (a.put o.dst (.slice (some ⟨g, 0, none⟩) (n + m) c')) w') : o.wp Tryd.prog a w K Q := by
  obtain ⟨i0, hi0, hz0, hz1, hz2⟩ := info_partsN infoPo
  cases B with
  | none =>
    have hzn : zs = [] := by
      cases zs with
      | nil => rfl
      | cons z r => obtain ⟨_, _, ⟨e, _⟩, _⟩ := hz 0 (by simp); cases e
    subst hzn
    subst hm
    obtain ⟨cur, hcap, _⟩ := own_curN hown
    have hr := run_append_noneN (P := Tryd.prog) (ty := o.type) Tryd.underlying26 hi0 gs n cs c hcap w
    unfold Oper.wp execOp
    simp only [ho, resolve, invoke, builtin, Sem.run_bind, Sem.run_pure, Result.andThen_ok, List.map_toArray, List.map_cons, List.map_nil, hs, hx, List.length_nil, hr]
    exact h gs cs w (by rw [List.append_nil]; exact hown) (grownN_refl _ _)
  | some ad =>
    have hcz : ∀ j u, (cellsTo zs)[j]? = some u → w.cell? (ad.add j) = some u := fun j u hu => by
      have hl : 0 < zs.length := by
        cases zs with
        | nil => simp [cellsTo] at hu
        | cons a r => simp
      obtain ⟨g, o, ⟨e, _⟩, _⟩ := hz 0 hl
      cases e
      rw [nadd]
      exact hz.cells j u hu
    refine wp_append_own w s x 26 ho base 46 i0 (.agg #[.int .i64 0, .int .i64 0]) 2 16 Tryd.underlying26 hi0 hz0 hz1 hz2 rfl (by decide) _ _ _ hs hown ad m c (cellsTo zs) hx (by rw [cellsTo_len, hm]) hcz (cellsTo_one zs) (by simp only [maxLen]; omega) (by omega) hbase ?_
    intro v' w' ho' hg hv
    obtain ⟨g', c', rfl⟩ := own_sliceN ho' (fun e => by cases (hv.1 e).1)
    rw [← cellsTo_app] at ho'
    exact h g' c' w' ho' hg
set_option maxHeartbeats 4000000 in
theorem allPorts_any (l : List Nd) (A : Option Addr) (m c : Nat) (w : World) (hm : m = l.length) (hm2 : m ≤ 100000) (hk : ∀ i, i < l.length → (ndAt l i).to.length ≤ 100000) (hN : NdsIn w AnyB l A) :
    Calls Tryd.prog 34 #[.slice A m c] w fun e w' => ∃ (g' n c' : Nat) (ps : Array Value), e = .returned (.slice (some ⟨g', 0, none⟩) n c') ∧ n = (portsOf l).length ∧ n ≤ c' ∧ w.heap.size ≤ g' ∧ Lies w' g' 46 ps ∧ (∀ (j : Nat) (u : Value), (cellsTo (portsOf l))[j]? = some u → ps[j]? = some u) ∧ Below w.heap.size w w' := by
  have HN := Lib.hid hN
  have HM := Lib.hid hm
  have HP := Lib.hid (portsOf_le l 100000 hk)
  obtain ⟨i0, hi0, hz0, hz1, hz2⟩ := info_partsN infoPo
  have hmk : ∀ (n : Nat) (W : World), n ≤ 10000000000 → (Instr.makeSlice 26 (.int .i64 0) (.int .i64 n)).run Tryd.prog W = .ok (.slice (some ⟨W.heap.size, 0, none⟩) 0 n) (W.alloc (.cells (madeCells #[.int .i64 0, .int .i64 0] (n * 2)) 46)) := fun n W hn => by
    have h := run_make (P := Tryd.prog) W 26 46 i0 (.agg #[.int .i64 0, .int .i64 0]) Tryd.underlying26 hi0 hz0 .i64 .i64 0 (n : Int) (by omega) (by omega) (by rw [hz2]; omega) (by omega)
    rw [hz1, show (Value.agg #[.int .i64 0, .int .i64 0]).cells = #[.int .i64 0, .int .i64 0] from rfl] at h
    simpa using h
  have HK := Lib.hid hk
  clear hN hm hk
  go_enter Tryd.func34, Tryd.ntmps34
  go_wp2_with fail
  go_loopw [3, 11] (fun v y wr => ∃ i : Nat, i ≤ m ∧ y = .int .i64 i ∧ v = .int .i64 (portsOf (l.take i)).length ∧ Below w.heap.size w wr) (fun _ y _ => m - (intOf y).toNat)
  case atStart => exact ⟨0, Nat.zero_le _, rfl, by simp [portsOf], Below.refl _ _⟩
  case round =>
    obtain ⟨i, hi, rfl, rfl, hbr⟩ := hrel
    have hpi := HP.out i (by have := HM.out; omega)
    by_cases hlt : i < m
    · have hil : i < l.length := by have := HM.out; omega
      obtain ⟨g, o, x, B, bb, C, cc, hx, rfl, _, ⟨x0, x1, x2, x3, x4, x5⟩, hI⟩ := NdsIn.get (HN.out.below hbr (Nat.le_refl _)) i hil
      have hU := congrArg List.length (portsOf_take l i hil)
      rw [List.length_append, ← hx] at hU
      have hxl := HK.out i hil
      rw [← hx] at hxl
      obtain ⟨s1, hs1⟩ : ∃ u, u = (portsOf (l.take i)).length := ⟨_, rfl⟩
      rw [← hs1] at hU hpi ⊢
      have HU := Lib.hid hU
      have hb1 : Below wr.heap.size wr (wr.alloc (.cells #[.int .i64 x.kind, .int .i64 x.level, .int .i64 x.n, .string x.name, .slice B x.alts.length (capN x.alts.length bb), .slice C x.to.length (capN x.to.length cc)] 28)) := (Below.refl _ wr).alloc (Nat.le_refl _) _
      have HB1 := Lib.hid (hbr.trans (hb1.mono hbr.size))
      clear hx hI hU hs1 hb1
      go_wp2_with fail
      go_roundw
      case rel =>
        go_light
        exact ⟨i + 1, by omega, by go_num, by rw [HU.out]; go_num, HB1.out⟩
      case measure => simp [intOf]; omega
    · have him : i = m := by omega
      subst him
      have hpl : (portsOf l).length ≤ i * 100000 := by
        rw [List.take_of_length_le (by have := HM.out; omega)] at hpi
        exact hpi
      rw [List.take_of_length_le (by have := HM.out; omega)]
      obtain ⟨N, hN9⟩ : ∃ N, N = (portsOf l).length := ⟨_, rfl⟩
      rw [← hN9] at hpl ⊢
      have HNN := Lib.hid hN9
      have hNb : N ≤ 10000000000 := by omega
      have hmk2 : ∀ W : World, (Instr.makeSlice 26 (.int .i64 0) (.int .i64 N)).run Tryd.prog W = .ok (.slice (some ⟨W.heap.size, 0, none⟩) 0 N) (W.alloc (.cells (madeCells #[.int .i64 0, .int .i64 0] (N * 2)) 46)) := fun W => hmk N W hNb
      obtain ⟨M, hM⟩ : ∃ M, M = madeCells #[.int .i64 0, .int .i64 0] (N * 2) := ⟨_, rfl⟩
      have hMs : M.size = N * 2 := by rw [hM, size_madeCells]
      rw [← hM] at hmk2
      clear hmk hM hN9 hpi hlt
      have hr0 : (wr.alloc (.cells M 46)).ownsRow w.heap.size 46 2 (.slice (some ⟨wr.heap.size, 0, none⟩) 0 N) 0 (cellsTo []) := World.ownsRow_made wr M N hbr.size (by simp only [maxLen]; omega) hMs
      have hb0 : Below w.heap.size w (wr.alloc (.cells M 46)) := hbr.alloc hbr.size _
      have HR0 := Lib.hid hr0
      have HB0 := Lib.hid hb0
      clear hr0 hb0
      go_wp2_with fail
      go_loopw [6, 25] (fun v y wr => ∃ (j gq n cq : Nat), j ≤ i ∧ y = .int .i64 j ∧ v = .slice (some ⟨gq, 0, none⟩) n cq ∧ n ≤ 10000000000 ∧ Hid (n = (portsOf (l.take j)).length ∧ wr.ownsRow w.heap.size 46 2 (.slice (some ⟨gq, 0, none⟩) n cq) n (cellsTo (portsOf (l.take j))) ∧ Below w.heap.size w wr)) (fun _ y _ => i - (intOf y).toNat)
      case atStart => exact ⟨0, wr.heap.size, 0, N, Nat.zero_le _, rfl, rfl, by omega, Lib.hid ⟨by simp [portsOf], by simpa [portsOf] using HR0.out, HB0.out⟩⟩
      case round =>
        clear hmk2 HR0 HB0
        obtain ⟨j, gq, n, cq, hj, rfl, rfl, hn9, hH⟩ := hrel
        rename World => wx
        have hbx := hH.out.2.2
        by_cases hlt : j < i
        · have hjl : j < l.length := by have := HM.out; omega
          obtain ⟨g, o, x, B, bb, C, cc, hx, rfl, _, ⟨x0, x1, x2, x3, x4, x5⟩, hI⟩ := NdsIn.get (HN.out.below hbx (Nat.le_refl _)) j hjl
          have hU := portsOf_take l j hjl
          have hpj := HP.out (j + 1) (by omega)
          rw [hU, List.length_append] at hpj
          rw [← hx] at hU hpj
          have HU := Lib.hid hU
          have hn1 := hH.out.1
          have hxl : n + x.to.length ≤ 10000000000 := by omega
          have hb1 : Below wx.heap.size wx (wx.alloc (.cells #[.int .i64 x.kind, .int .i64 x.level, .int .i64 x.n, .string x.name, .slice B x.alts.length (capN x.alts.length bb), .slice C x.to.length (capN x.to.length cc)] 28)) := (Below.refl _ wx).alloc (Nat.le_refl _) _
          have HT := Lib.hid (hI.2.2.below hb1 (Nat.le_refl _))
          have HR := Lib.hid (hH.out.2.1.alloc (.cells #[.int .i64 x.kind, .int .i64 x.level, .int .i64 x.n, .string x.name, .slice B x.alts.length (capN x.alts.length bb), .slice C x.to.length (capN x.to.length cc)] 28))
          have HB1 := Lib.hid (hbx.trans (hb1.mono hbx.size))
          have hN1 := Lib.hid hn1
          have hxs := HB1.out.size
          clear hx hI hU hb1 hbx hH hpj hn1
          obtain ⟨mt, hmt⟩ : ∃ mt, mt = x.to.length := ⟨_, rfl⟩
          have HMT := Lib.hid hmt
          rw [← hmt] at x5 hxl HR hxs HB1 HT
          clear hmt
          go_wp2_with (at_builtin; refine wpList_plain rfl fun _ hK => wp_append_ports (.tmp 29) (.tmp 31) rfl w.heap.size (portsOf (l.take j)) x.to gq n cq hN1.out rfl HR.out C mt (capN mt cc) HMT.out rfl AnyB HT.out (by omega) hxs (fun g2 c2 w2 ho2 hg2 => hK _ _ ?_))
          have hb3 := HB1.out.grown hg2 hxs (fun q hq => (HR.out.lt q hq).1)
          have HO := Lib.hid ho2
          have HB3 := Lib.hid hb3
          clear ho2 hg2 hb3 HR HB1 HT
          go_wp2_with fail
          go_roundw
          case rel =>
            go_light
            exact ⟨j + 1, g2, n + mt, c2, by omega, by go_num, rfl, by omega, Lib.hid ⟨by rw [HU.out, List.length_append, ← hN1.out, HMT.out], by rw [HU.out]; exact HO.out, HB3.out⟩⟩
          case measure => simp [intOf]; omega
        · have hji : j = i := by omega
          subst hji
          go_wp2_with fail
          go_ret
          have h9 : l.take j = l := List.take_of_length_le (by have := HM.out; omega)
          rw [h9] at hH
          obtain ⟨hn1, ho, hb⟩ := hH.out
          obtain ⟨cur, h1, h2, h3, h4, h5⟩ := own_curN ho
          refine ⟨gq, n, cq, cur, rfl, hn1, h1, h5, h2, (fun i u hu => ?_), hb⟩
          rw [← h4] at hu
          have hi9 : i < n * 2 := by
            rcases Nat.lt_or_ge i (n * 2) with h | h
            · exact h
            · rw [List.getElem?_eq_none (by simp; omega)] at hu; cases hu
          rw [List.getElem?_take_of_lt hi9] at hu
          simpa using hu
end Lx
end Go.Proofs.YtceblpjlklogpaaDoor
namespace Go.Proofs.YtceblpjlklogpaaDoor
open Go Go.RowKit
namespace Lx
set_option maxRecDepth 100000
set_option maxHeartbeats 2000000 in
/-- slices.Clone of nodes that are not nil. -/
theorem cloneN_any (_l : List Nd) (ad : Addr) (m c : Nat) (xs : List Value) (w : World) (hxl : xs.length = m * 6) (hm2 : m ≤ 1000000000) (hc : ∀ j u, xs[j]? = some u → w.cell? (ad.add j) = some u) (h1 : ∀ u ∈ xs, u.oneCell' = true) :
    Calls Tryd.prog 33 #[.slice (some ad) m c] w fun e w' => ∃ g' c', e = .returned (.slice (some ⟨g', 0, none⟩) m c') ∧ w'.ownsRow w.heap.size 28 6 (.slice (some ⟨g', 0, none⟩) m c') m xs ∧ Below w.heap.size w w' := by
  have hcb : ∀ j u, xs[j]? = some u → (w.alloc (.cells #[] 28)).cell? (ad.add j) = some u := fun j u hu => by
    have h1 := hc j u hu
    rw [World.cell?_alloc_lt _ _ _ (World.block_lt_of_cell? w _ h1)]
    exact h1
  obtain ⟨i0, hi, hz0, hz1, hz2⟩ := info_partsN infoNd
  have hown0 : (w.alloc (.cells #[] 28)).ownsRow w.heap.size 28 6 (.slice (some ⟨w.heap.size, 0, none⟩) 0 0) 0 [] := World.ownsRow_made w #[] 0 (Nat.le_refl _) (by simp [maxLen]) rfl
  have hb0 : Below w.heap.size w (w.alloc (.cells #[] 28)) := (Below.refl _ w).alloc (Nat.le_refl _) _
  have heq : ∀ W, (binOp .eql 22 (.slice (some ad) m c) (.slice none 0 0)).run Tryd.prog W = .ok (.bool false) W := fun W => by kernel_rfl
  have H1 := Lib.hid h1
  clear hc h1
  go_enter Tryd.func33, Tryd.ntmps33
  go_wp2_with (at_builtin; refine wpList_append_own _ rfl (.tmp 5) (.tmp 6) 22 rfl w.heap.size 28 i0 (.agg #[.int .i64 0, .int .i64 0, .int .i64 0, .string ⟨#[]⟩, .slice none 0 0, .slice none 0 0]) 6 88 Tryd.underlying22 hi hz0 hz1 hz2 rfl (by decide) _ _ _ rfl hown0 ad m c xs rfl hxl hcb H1.out ?c3 ?c4 ?c5 ?_)
  case c3 => unfold maxLen; omega
  case c4 => omega
  case c5 => simp
  intro v1 w1 hown1 hg1 hv1
  obtain ⟨g1, c1, rfl⟩ := own_sliceN hown1 hv1
  try simp only [Nat.zero_add, List.nil_append] at hown1
  have hb1 : Below w.heap.size w w1 := hb0.grown hg1 (by simp) (fun k hk => (hown0.lt k hk).1)
  clear hown0 hb0 hg1 hi hz0 hz1 hz2 hcb hv1
  have HO := Lib.hid hown1
  have HB := Lib.hid hb1
  clear hown1 hb1
  go_wp2_with fail
  go_ret
  exact ⟨g1, c1, rfl, HO.out, HB.out⟩
/-- Six cells stored, one behind the other. -/
def put6 (w : World) (G o : Nat) (a b c d e f : Value) : World := (((((w.setCell ⟨G, o, none⟩ a).setCell ⟨G, o + 1, none⟩ b).setCell ⟨G, o + 2, none⟩ c).setCell ⟨G, o + 3, none⟩ d).setCell ⟨G, o + 4, none⟩ e).setCell ⟨G, o + 5, none⟩ f
theorem put6_lies {w : World} {G o : Nat} {t : TypeId} {cs : Array Value} (h : Lies w G t cs) (ho : o + 6 ≤ cs.size) (a b c d e f : Value) :
    ∃ cs', Lies (put6 w G o a b c d e f) G t cs' ∧ cs'.size = cs.size ∧ (∀ q, q < 6 → cs'[o + q]? = [a, b, c, d, e, f][q]?) ∧ ∀ k, (k < o ∨ o + 6 ≤ k) → cs'[k]? = cs[k]? := by
  refine ⟨_, (((((h.put o a).put (o + 1) b).put (o + 2) c).put (o + 3) d).put (o + 4) e).put (o + 5) f, by simp, fun q hq => ?_, fun k hk => ?_⟩
  · rcases (by omega : q = 0 ∨ q = 1 ∨ q = 2 ∨ q = 3 ∨ q = 4 ∨ q = 5) with rfl | rfl | rfl | rfl | rfl | rfl <;> simp [Array.getElem?_setIfInBounds] <;> omega
  · simp only [Array.getElem?_setIfInBounds]
    repeat rw [if_neg (by omega)]
theorem put6_below {B : Nat} {w0 w : World} {G o : Nat} (h : Below B w0 w) (hG : B ≤ G) (a b c d e f : Value) : Below B w0 (put6 w G o a b c d e f) :=
  (((((h.setCell (p := ⟨G, o, none⟩) hG a).setCell (p := ⟨G, o + 1, none⟩) hG b).setCell (p := ⟨G, o + 2, none⟩) hG c).setCell (p := ⟨G, o + 3, none⟩) hG d).setCell (p := ⟨G, o + 4, none⟩) hG e).setCell (p := ⟨G, o + 5, none⟩) hG f
theorem put6_keep {w : World} {X : Nat → Prop} {G o : Nat} (hX : ¬ X G) (a b c d e f : Value) : ∀ g j, X g → g < w.heap.size → (put6 w G o a b c d e f).cell? ⟨g, j, none⟩ = w.cell? ⟨g, j, none⟩ ∧ X g := fun g j hg _ => by
  have hne : g ≠ G := fun e => hX (e ▸ hg)
  refine ⟨?_, hg⟩
  unfold put6
  have h1 : ∀ (V : World) (k : Nat) (u : Value), (V.setCell ⟨G, k, none⟩ u).cell? ⟨g, j, none⟩ = V.cell? ⟨g, j, none⟩ := fun V k u => World.cell?_setCell_other V ⟨G, k, none⟩ ⟨g, j, none⟩ u (fun e => by injection e with e; exact hne e.symm)
  rw [h1, h1, h1, h1, h1, h1]
/-- Block G is a row of nodes of the call's own: of those of which P holds all lies in blocks of X. -/
structure Half (w : World) (X : Nat → Prop) (G m : Nat) (l : List Nd) (k : Nat) (cs : Array Value) : Prop where
  lies : Lies w G 28 cs
  size : m * 6 ≤ cs.size
  new : ∀ j, j < k → ∃ B b C c, (∀ q, q < 6 → cs[j * 6 + q]? = (cellsNd (ndAt l j) B b C c)[q]?) ∧ NdIn w X (ndAt l j) B C
  old : ∀ j, k ≤ j → j < m → ∃ B b C c, (∀ q, q < 6 → cs[j * 6 + q]? = (cellsNd (ndAt l j) B b C c)[q]?) ∧ NdIn w (· ≠ G) (ndAt l j) B C
/-- One more. -/
theorem Half.put {w : World} {X : Nat → Prop} {G m : Nat} {l : List Nd} {k : Nat} {cs : Array Value} (h : Half w X G m l k cs) (hk : k < m) (hX : ¬ X G) {B C : Option Addr} (b c : Nat) (hn : NdIn w X (ndAt l k) B C) :
    ∃ cs', Half (put6 w G (k * 6) (.int .i64 (ndAt l k).kind) (.int .i64 (ndAt l k).level) (.int .i64 (ndAt l k).n) (.string (ndAt l k).name) (.slice B (ndAt l k).alts.length (capN (ndAt l k).alts.length b)) (.slice C (ndAt l k).to.length (capN (ndAt l k).to.length c))) X G m l (k + 1) cs' ∧ cs'.size = cs.size := by
  have hs := h.size
  obtain ⟨cs', h1, h2, h3, h4⟩ := put6_lies h.lies (o := k * 6) (by omega) (.int .i64 (ndAt l k).kind) (.int .i64 (ndAt l k).level) (.int .i64 (ndAt l k).n) (.string (ndAt l k).name) (.slice B (ndAt l k).alts.length (capN (ndAt l k).alts.length b)) (.slice C (ndAt l k).to.length (capN (ndAt l k).to.length c))
  refine ⟨cs', ⟨h1, by omega, fun j hj => ?_, fun j hj hjm => ?_⟩, h2⟩
  · by_cases e : j = k
    · subst e
      exact ⟨B, b, C, c, fun q hq => h3 q hq, hn.keep (put6_keep hX _ _ _ _ _ _)⟩
    · obtain ⟨B', b', C', c', h5, h6⟩ := h.new j (by omega)
      exact ⟨B', b', C', c', fun q hq => by rw [h4 _ (by omega)]; exact h5 q hq, h6.keep (put6_keep hX _ _ _ _ _ _)⟩
  · obtain ⟨B', b', C', c', h5, h6⟩ := h.old j (by omega) hjm
    exact ⟨B', b', C', c', fun q hq => by rw [h4 _ (by omega)]; exact h5 q hq, h6.keep (put6_keep (fun e => e rfl) _ _ _ _ _ _)⟩
theorem Half.below {w w' : World} {X : Nat → Prop} {G m : Nat} {l : List Nd} {k : Nat} {cs : Array Value} (h : Half w X G m l k cs) {D : Nat} (hb : Below D w w') (hD : w.heap.size ≤ D) : Half w' X G m l k cs := by
  refine ⟨h.lies.below hb (by have := h.lies.lt; omega), h.size, fun j hj => ?_, fun j hj hjm => ?_⟩
  · obtain ⟨B, b, C, c, h5, h6⟩ := h.new j hj
    exact ⟨B, b, C, c, h5, h6.below hb hD⟩
  · obtain ⟨B, b, C, c, h5, h6⟩ := h.old j hj hjm
    exact ⟨B, b, C, c, h5, h6.below hb hD⟩
/-- All are there. -/
theorem Half.row {w : World} {X Y : Nat → Prop} {G m : Nat} {l : List Nd} {cs : Array Value} (h : Half w X G m l m cs) (hm : m = l.length) (hG : Y G) (hXY : ∀ g, X g → g < w.heap.size → Y g) : NdsIn w Y l (some ⟨G, 0, none⟩) := fun i hi => by
  obtain ⟨B, b, C, c, h5, h6⟩ := h.new i (by omega)
  rw [ndAt_lt hi] at h5 h6
  have hq : ∀ q, q < 6 → w.cell? ⟨G, 0 + i * 6 + q, none⟩ = (cellsNd (l[i]'hi) B b C c)[q]? := fun q hq => by
    rw [Nat.zero_add, h.lies.cell]
    exact h5 q hq
  exact ⟨G, 0, B, b, C, c, ⟨rfl, hG⟩, ⟨hq 0 (by omega), hq 1 (by omega), hq 2 (by omega), hq 3 (by omega), hq 4 (by omega), hq 5 (by omega)⟩, h6.keep (keep_wide hXY)⟩
end Lx
end Go.Proofs.YtceblpjlklogpaaDoor
namespace Go.Proofs.YtceblpjlklogpaaDoor
namespace Lx
set_option maxRecDepth 100000
theorem ndAt_set {ns : List Nd} {i j : Nat} {x : Nd} : ndAt (ns.set i x) j = if i = j ∧ j < ns.length then x else ndAt ns j := by
  by_cases hj : j < ns.length
  · rw [ndAt_lt (by simpa using hj), List.getElem_set]
    by_cases e : i = j
    · simp [e, hj]
    · rw [if_neg e, if_neg (by omega), ndAt_lt hj]
  · rw [ndAt_ge (by simpa using hj), if_neg (by omega), ndAt_ge (by omega)]
theorem ndAt_snoc {ns : List Nd} {j : Nat} {x : Nd} : ndAt (ns ++ [x]) j = if j = ns.length then x else ndAt ns j := by
  rcases Nat.lt_trichotomy j ns.length with h | h | h
  · rw [ndAt_lt (by simp; omega), List.getElem_append_left h, if_neg (by omega), ndAt_lt h]
  · subst h; rw [if_pos rfl, ndAt_lt (by simp), List.getElem_append_right (Nat.le_refl _)]; simp
  · rw [ndAt_ge (by simp; omega), if_neg (by omega), ndAt_ge (by omega)]
theorem ndAt_take {ns : List Nd} {i j : Nat} (h : j < i) : ndAt (ns.take i) j = ndAt ns j := by
  by_cases hj : j < ns.length
  · rw [ndAt_lt (by simp; omega), List.getElem_take, ndAt_lt hj]
  · rw [ndAt_ge (by simp; omega), ndAt_ge (by omega)]
theorem nd_ext {l m : List Nd} (hl : l.length = m.length) (h : ∀ j, j < l.length → ndAt l j = ndAt m j) : l = m := by
  apply List.ext_getElem hl
  intro j h1 h2
  have := h j h1
  rwa [ndAt_lt h1, ndAt_lt h2] at this
theorem used_set : ∀ (ns : List Nd) (i : Nat) (x : Nd), i < ns.length → usedV (ns.set i x) + (if (ndAt ns i).kind = 0 then 0 else 1) = usedV ns + (if x.kind = 0 then 0 else 1)
  | [], i, x, h => by simp at h
  | a :: r, 0, x, _ => by simp only [List.set_cons_zero, usedV, ndAt, List.getD_cons_zero]; omega
  | a :: r, i + 1, x, h => by
    have := used_set r i x (by simpa using h)
    have hn : ndAt (a :: r) (i + 1) = ndAt r i := by simp [ndAt]
    rw [hn, List.set_cons_succ, usedV, usedV]
    omega
theorem used_trim (l : List Nd) : usedV (trimV l) = usedV l := by
  induction l with
  | nil => rfl
  | cons x r ih =>
    rw [trimV]
    cases hq : trimV r with
    | nil =>
      rw [hq] at ih
      simp only [usedV] at ih ⊢
      split
      · simp only [usedV]; omega
      · rename_i h; simp only [usedV, if_neg h]; omega
    | cons y s =>
      rw [hq] at ih
      rw [usedV, ih, usedV]
theorem ndAt_trim (l : List Nd) (j : Nat) (h : j < (trimV l).length) : ndAt (trimV l) j = ndAt l j := by
  rw [(trimV_take l).1] at h ⊢
  simp only [List.length_take] at h
  exact ndAt_take (by omega)
theorem not_trimmed {l : List Nd} {j : Nat} (h : (ndAt l j).kind ≠ 0) : j < (trimV l).length := by
  rcases Nat.lt_or_ge j (trimV l).length with h1 | h1
  · exact h1
  · exact absurd (trimV_rest l j h1) h
theorem node_of {ns : List Nd} {cap : Int} (h : checkV ns cap = true) : ∀ i, i < ns.length → atOk ns i = true := (of_decide_eq_true h).2.2.2.2.2
theorem at_node {ns : List Nd} {i : Nat} (h : atOk ns i = true) : nodeV (ndAt ns i) = true ∧ (ndAt ns i).to.length = (ndAt ns i).ports ∧ (i = 0 ↔ (ndAt ns i).kind = 1) ∧ linkedV ns i = true := by
  simp only [atOk, Bool.and_eq_true, decide_eq_true_eq, beq_iff_eq, decide_eq_decide] at h
  exact h
theorem zero_of {x : Nd} (h : nodeV x = true) (h0 : x.kind = 0) (hp : x.to.length = x.ports) : x = Nd.zero := by
  obtain ⟨k, l, n, s, al, tp⟩ := x
  simp only at h0
  subst h0
  simp only [nodeV, hasNameK, hasNumK, Bool.and_eq_true, Bool.or_eq_true, decide_eq_true_eq, beq_iff_eq, Nd.ports, portsN] at h hp
  obtain ⟨h1, h2, h3, h4, _⟩ := h
  have hl : l = 0 := by omega
  have hn : n = 0 := by rcases h3 with h3 | h3 | h3; exact h3; all_goals omega
  have hs : s = ⟨#[]⟩ := by simpa using h2
  have ha : al = [] := List.eq_nil_of_length_eq_zero (h4.2.2.1 (by omega))
  have ht : tp = [] := List.eq_nil_of_length_eq_zero (by simpa using hp)
  subst hl hn hs ha ht
  rfl
theorem free_zero {ns : List Nd} {cap : Int} (h : checkV ns cap = true) {i : Nat} (h0 : (ndAt ns i).kind = 0) : ndAt ns i = Nd.zero := by
  by_cases hi : i < ns.length
  · obtain ⟨h1, h2, _, _⟩ := at_node (node_of h i hi)
    exact zero_of h1 h0 h2
  · exact ndAt_ge (by omega)
theorem fresh_kind (x : Nd) : (freshV x).kind = x.kind := rfl
theorem set_self {ns : List Nd} {i : Nat} {x : Nd} (h : ndAt ns i = x) : ns.set i x = ns :=
  nd_ext (by simp) fun j hj => by
    rw [ndAt_set]
    split
    · rename_i e; rw [← e.1, h]
    · rfl
theorem trim_check {ns : List Nd} {cap : Int} (h : checkV ns cap = true) : trimV ns = ns := by
  have h1 := of_decide_eq_true h
  exact trimV_last (fun e => by rw [e] at h1; exact absurd h1.2.2.1 (by simp)) h1.2.2.2.2.1
theorem make_err {ns : List Nd} {cap : Int} {x : Nd} (hx : makeable x = true) (hu : ¬ (usedV ns : Int) < cap) : makeV ns cap x = (ns, 0, 121) := by rw [makeV, if_pos hx, if_neg hu]
/-- What is made, where there is room. -/
theorem make_ok {ns : List Nd} {cap : Int} {x : Nd} (hx : makeable x = true) (hu : (usedV ns : Int) < cap) :
    ∃ (ms : List Nd) (i : Nat), makeV ns cap x = (ms, (i : Int), 0) ∧ i < ms.length ∧ ns.length ≤ ms.length ∧ (ndAt ns i).kind = 0 ∧ ndAt ms i = freshV x ∧ (∀ j, j ≠ i → j < ms.length → j < ns.length ∧ ndAt ms j = ndAt ns j) ∧ usedV ms = usedV ns + 1 ∧
      (trimV (ms.set i Nd.zero) = trimV (ns.set i Nd.zero)) ∧ (∀ j, j < i → (ndAt ns j).kind ≠ 0) ∧ i ≤ ns.length := by
  have hk : x.kind ≠ 0 := by
    simp only [makeable, Bool.and_eq_true, decide_eq_true_eq] at hx
    omega
  rw [makeV, if_pos hx, if_pos hu]
  cases hf : freeAt ns with
  | some i =>
    obtain ⟨h1, h2, h3⟩ := freeAt_some hf
    refine ⟨_, i, rfl, by simpa using h1, by simp, h2, by rw [ndAt_set, if_pos ⟨rfl, h1⟩], fun j hj hl => ⟨by simpa using hl, by rw [ndAt_set, if_neg (fun e => hj e.1.symm)]⟩, ?_, by rw [List.set_set], h3, Nat.le_of_lt h1⟩
    have := used_set ns i (freshV x) h1
    rw [if_pos h2, fresh_kind, if_neg hk] at this
    omega
  | none =>
    have h3 := freeAt_none hf
    refine ⟨_, ns.length, rfl, by simp, by simp, by rw [ndAt_ge (Nat.le_refl _)]; rfl, by rw [ndAt_snoc, if_pos rfl], fun j hj hl => ⟨by simp at hl; omega, by rw [ndAt_snoc, if_neg hj]⟩, ?_, ?_, fun j hj => h3 j hj, Nat.le_refl _⟩
    · rw [usedV_snoc, fresh_kind, if_neg hk]
    · rw [List.set_append_right _ _ (Nat.le_refl _), Nat.sub_self, List.set_cons_zero, trimV_zero _ _ rfl, List.set_eq_of_length_le (Nat.le_refl _)]
/-- P12.4: what is made and freed is as it was. -/
theorem back_ok {ns ms : List Nd} {cap : Int} {i : Nat} (h : checkV ns cap = true) (h0 : (ndAt ns i).kind = 0) (hi : i < ms.length) (hk : (ndAt ms i).kind ≠ 0) (ht : trimV (ms.set i Nd.zero) = trimV (ns.set i Nd.zero)) :
    freeV ms i = (ns, 0) := by
  rw [freeV, if_pos ⟨by omega, by omega, by simpa using hk⟩]
  simp only [Int.toNat_natCast]
  rw [ht, set_self (free_zero h h0), trim_check h]
end Lx
end Go.Proofs.YtceblpjlklogpaaDoor
namespace Go.Proofs.YtceblpjlklogpaaDoor
namespace Lx
set_option maxRecDepth 100000
/-- A port has another one. -/
def setNV (ns : List Nd) (p q : Int × Int) : List Nd := ns.set p.1.toNat { ndAt ns p.1.toNat with «to» := (ndAt ns p.1.toNat).to.set p.2.toNat q }
def peerNV (ns : List Nd) (p : Int × Int) : (Int × Int) × Int := if hasV ns p = true then (toAt ns p, 0) else ((0, 0), 130)
def linkNV (ns : List Nd) (p q : Int × Int) : List Nd × Int := if hasV ns p = true ∧ hasV ns q = true ∧ p ≠ q then (setNV (setNV ns p q) q p, 0) else (ns, 130)
def moveNV (ns : List Nd) (p q : Int × Int) : List Nd × Int :=
  if hasV ns p = true ∧ hasV ns q = true ∧ p ≠ q ∧ hasV ns (toAt ns p) = true then if toAt ns p = q then (ns, 0) else linkNV ns q (toAt ns p) else (ns, 130)
def joinNV (ns : List Nd) (p q : Int × Int) : List Nd × Int :=
  if hasV ns p = true ∧ hasV ns q = true ∧ p ≠ q ∧ hasV ns (toAt ns p) = true ∧ hasV ns (toAt ns q) = true then if toAt ns p = q then (ns, 0) else linkNV ns (toAt ns p) (toAt ns q) else (ns, 130)
theorem hasV_iff (ns : List Nd) (p : Int × Int) : hasV ns p = true ↔ 0 ≤ p.1 ∧ p.1 < ns.length ∧ 0 ≤ p.2 ∧ p.2 < (ndAt ns p.1.toNat).to.length := by rw [hasV, decide_eq_true_eq]
theorem setNV_len (ns : List Nd) (p q : Int × Int) : (setNV ns p q).length = ns.length := by simp [setNV]
/-- Nodes but for what they are linked to. -/
theorem setNV_at (ns : List Nd) (p q : Int × Int) (j : Nat) : ndAt (setNV ns p q) j = if p.1.toNat = j ∧ j < ns.length then { ndAt ns j with «to» := (ndAt ns j).to.set p.2.toNat q } else ndAt ns j := by
  rw [setNV, ndAt_set]
  split
  · rename_i h; rw [h.1]
  · rfl
theorem setNV_kind (ns : List Nd) (p q : Int × Int) (j : Nat) : (ndAt (setNV ns p q) j).kind = (ndAt ns j).kind ∧ (ndAt (setNV ns p q) j).to.length = (ndAt ns j).to.length ∧ (ndAt (setNV ns p q) j).alts = (ndAt ns j).alts := by
  rw [setNV_at]
  split <;> simp
theorem hasV_setN (ns : List Nd) (p q r : Int × Int) : hasV (setNV ns p q) r = hasV ns r := by
  rw [hasV, hasV, setNV_len, (setNV_kind ns p q _).2.1]
theorem getD_set {l : List (Int × Int)} {i j : Nat} {q : Int × Int} (h : j < l.length) : (l.set i q).getD j (0, 0) = if i = j then q else l.getD j (0, 0) := by
  simp only [List.getD_eq_getElem?_getD, List.getElem?_set]
  by_cases e : i = j
  · subst e; simp [h]
  · simp [e]
theorem toAt_setN {ns : List Nd} {p q r : Int × Int} (hp : hasV ns p = true) (hr : hasV ns r = true) : toAt (setNV ns p q) r = if r = p then q else toAt ns r := by
  obtain ⟨p1, p2, p3, p4⟩ := (hasV_iff ns p).1 hp
  obtain ⟨r1, r2, r3, r4⟩ := (hasV_iff ns r).1 hr
  obtain ⟨pa, pb⟩ := p
  obtain ⟨ra, rb⟩ := r
  simp only at p1 p2 p3 p4 r1 r2 r3 r4
  rw [toAt, toAt, setNV_at]
  simp only [Prod.mk.injEq]
  by_cases e : pa.toNat = ra.toNat
  · rw [if_pos ⟨e, by omega⟩]
    simp only
    rw [getD_set (by omega)]
    by_cases e2 : pb.toNat = rb.toNat
    · rw [if_pos e2, if_pos ⟨by omega, by omega⟩]
    · rw [if_neg e2, if_neg (by omega)]
  · rw [if_neg (by omega), if_neg (by omega)]
theorem setNV_self {ns : List Nd} {p q : Int × Int} (hp : hasV ns p = true) (h : toAt ns p = q) : setNV ns p q = ns := by
  obtain ⟨p1, p2, p3, p4⟩ := (hasV_iff ns p).1 hp
  refine nd_ext (setNV_len ns p q) fun j hj => ?_
  rw [setNV_at]
  split
  · rename_i e
    have h2 : (ndAt ns j).to.set p.2.toNat q = (ndAt ns j).to := by
      apply List.ext_getElem?
      intro k
      rw [List.getElem?_set]
      split
      · rename_i e2
        have hl : k < (ndAt ns j).to.length := by rw [← e.1]; omega
        rw [← e2]
        rw [← e2] at hl
        rw [if_pos hl, ← h, toAt, e.1]
        simp [hl]
      · rfl
    rw [h2]
  · rfl
/-- Have all ports but some the same links? -/
def othersN (ns ms : List Nd) (but : List (Int × Int)) : Prop :=
  ns.length = ms.length ∧ ∀ i, i < ns.length → (ndAt ns i).to.length = (ndAt ms i).to.length ∧ (ndAt ns i).kind = (ndAt ms i).kind ∧ ∀ k, k < (ndAt ns i).to.length → ((i : Int), (k : Int)) ∈ but ∨ (ndAt ns i).to.getD k (0, 0) = (ndAt ms i).to.getD k (0, 0)
theorem othersN_of {ns ms : List Nd} {but : List (Int × Int)} (h1 : ns.length = ms.length) (h2 : ∀ i, (ndAt ms i).kind = (ndAt ns i).kind ∧ (ndAt ms i).to.length = (ndAt ns i).to.length) (h3 : ∀ r, hasV ns r = true → r ∈ but ∨ toAt ms r = toAt ns r) : othersN ns ms but := by
  refine ⟨h1, fun i hi => ⟨(h2 i).2.symm, (h2 i).1.symm, fun k hk => ?_⟩⟩
  rcases h3 ((i : Int), (k : Int)) ((hasV_iff _ _).2 ⟨by simp, by simpa using hi, by simp, by simpa using hk⟩) with h | h
  · exact .inl h
  · exact .inr (by simpa [toAt] using h.symm)
theorem peer_ok {ns : List Nd} {p : Int × Int} (h : hasV ns p = true) : peerNV ns p = (toAt ns p, 0) := by rw [peerNV, if_pos h]
theorem link_ok {ns : List Nd} {p q : Int × Int} (hp : hasV ns p = true) (hq : hasV ns q = true) (hn : p ≠ q) : linkNV ns p q = (setNV (setNV ns p q) q p, 0) := by rw [linkNV, if_pos ⟨hp, hq, hn⟩]
theorem has2 (ns : List Nd) (p q p' q' r : Int × Int) : hasV (setNV (setNV ns p q) p' q') r = hasV ns r := by rw [hasV_setN, hasV_setN]
theorem len2 (ns : List Nd) (p q p' q' : Int × Int) : (setNV (setNV ns p q) p' q').length = ns.length := by rw [setNV_len, setNV_len]
theorem kind2 (ns : List Nd) (p q p' q' : Int × Int) (i : Nat) : (ndAt (setNV (setNV ns p q) p' q') i).kind = (ndAt ns i).kind ∧ (ndAt (setNV (setNV ns p q) p' q') i).to.length = (ndAt ns i).to.length := by
  obtain ⟨a, b, _⟩ := setNV_kind (setNV ns p q) p' q' i
  obtain ⟨c, d, _⟩ := setNV_kind ns p q i
  exact ⟨a.trans c, b.trans d⟩
/-- What two ports have that were linked, and all others. -/
theorem to2 {ns : List Nd} {p q r : Int × Int} (hp : hasV ns p = true) (hq : hasV ns q = true) (hr : hasV ns r = true) : toAt (setNV (setNV ns p q) q p) r = if r = q then p else if r = p then q else toAt ns r := by
  rw [toAt_setN (by rw [hasV_setN]; exact hq) (by rw [hasV_setN]; exact hr), toAt_setN hp hr]
theorem others2 {ns : List Nd} {p q : Int × Int} (hp : hasV ns p = true) (hq : hasV ns q = true) : othersN ns (setNV (setNV ns p q) q p) [p, q] :=
  othersN_of (len2 ns p q q p).symm (kind2 ns p q q p) fun r hr => by
    rw [to2 hp hq hr]
    by_cases e : r = q
    · exact .inl (by simp [e])
    · by_cases e2 : r = p
      · exact .inl (by simp [e2])
      · exact .inr (by rw [if_neg e, if_neg e2])
/-- P13.1: linked again, the other way round. -/
theorem link_again {ns : List Nd} {p q : Int × Int} (hp : hasV ns p = true) (hq : hasV ns q = true) (hn : p ≠ q) : linkNV (setNV (setNV ns p q) q p) q p = (setNV (setNV ns p q) q p, 0) := by
  rw [link_ok (by rw [has2]; exact hq) (by rw [has2]; exact hp) (fun e => hn e.symm)]
  have h1 : toAt (setNV (setNV ns p q) q p) q = p := by rw [to2 hp hq hq, if_pos rfl]
  have h2 : toAt (setNV (setNV ns p q) q p) p = q := by rw [to2 hp hq hp, if_neg hn, if_pos rfl]
  rw [setNV_self (by rw [has2]; exact hq) h1, setNV_self (by rw [has2]; exact hp) h2]
/-- Of a net that may be: what a port is linked to. -/
theorem checked_link {ns : List Nd} {cap : Int} (h : checkV ns cap = true) {p : Int × Int} (hp : hasV ns p = true) : hasV ns (toAt ns p) = true ∧ toAt ns p ≠ p ∧ toAt ns (toAt ns p) = p := by
  obtain ⟨p1, p2, p3, p4⟩ := (hasV_iff ns p).1 hp
  have h1 := (at_node (node_of h p.1.toNat (by omega))).2.2.2
  have h2 := of_decide_eq_true h1 p.2.toNat (by omega)
  have e : (((p.1.toNat : Nat) : Int), ((p.2.toNat : Nat) : Int)) = p := by
    obtain ⟨a, b⟩ := p
    simp only at p1 p3 ⊢
    rw [Int.toNat_of_nonneg p1, Int.toNat_of_nonneg p3]
  rw [portOk, e] at h2
  simp only [Bool.and_eq_true, Bool.not_eq_true', beq_eq_false_iff_ne, beq_iff_eq] at h2
  exact ⟨h2.2.1, h2.1, h2.2.2⟩
/-- P13.3 of moving. -/
theorem move_ok {ns : List Nd} {cap : Int} (h : checkV ns cap = true) {p q : Int × Int} (hp : hasV ns p = true) (hq : hasV ns q = true) (hn : p ≠ q) :
    moveNV ns p q = if toAt ns p = q then (ns, 0) else (setNV (setNV ns q (toAt ns p)) (toAt ns p) q, 0) := by
  obtain ⟨a1, _, _⟩ := checked_link h hp
  rw [moveNV, if_pos ⟨hp, hq, hn, a1⟩]
  split
  · rfl
  · rename_i e
    rw [link_ok hq a1 (fun e2 => e e2.symm)]
theorem join_ok {ns : List Nd} {cap : Int} (h : checkV ns cap = true) {p q : Int × Int} (hp : hasV ns p = true) (hq : hasV ns q = true) (hn : p ≠ q) :
    toAt ns p ≠ toAt ns q ∧ joinNV ns p q = if toAt ns p = q then (ns, 0) else (setNV (setNV ns (toAt ns p) (toAt ns q)) (toAt ns q) (toAt ns p), 0) := by
  obtain ⟨a1, _, a3⟩ := checked_link h hp
  obtain ⟨b1, _, b3⟩ := checked_link h hq
  have hne : toAt ns p ≠ toAt ns q := fun e => hn (by rw [← a3, ← b3, e])
  refine ⟨hne, ?_⟩
  rw [joinNV, if_pos ⟨hp, hq, hn, a1, b1⟩]
  split
  · rfl
  · rw [link_ok a1 b1 hne]
/-- What was moved, and is moved back. -/
theorem move_back {ns : List Nd} {cap : Int} (h : checkV ns cap = true) {p q : Int × Int} (hp : hasV ns p = true) (hq : hasV ns q = true) (hn : p ≠ q) (ha : toAt ns p ≠ q) :
    ∃ ks, moveNV (setNV (setNV ns q (toAt ns p)) (toAt ns p) q) q p = (ks, 0) ∧ hasV ks p = true ∧ hasV ks (toAt ns p) = true ∧ toAt ks p = toAt ns p ∧ toAt ks (toAt ns p) = p ∧ othersN ns ks [q] ∧ ks.length = ns.length := by
  obtain ⟨a1, a2, a3⟩ := checked_link h hp
  obtain ⟨a, ea⟩ : ∃ a, a = toAt ns p := ⟨_, rfl⟩
  rw [← ea] at a1 a2 a3 ha ⊢
  have m1 : toAt (setNV (setNV ns q a) a q) q = a := by rw [to2 hq a1 hq, if_neg (fun e => ha e.symm), if_pos rfl]
  have g1 : moveNV (setNV (setNV ns q a) a q) q p = (setNV (setNV (setNV (setNV ns q a) a q) p a) a p, 0) := by
    rw [moveNV, m1, if_pos ⟨by rw [has2]; exact hq, by rw [has2]; exact hp, fun e => hn e.symm, by rw [has2]; exact a1⟩, if_neg a2, link_ok (by rw [has2]; exact hp) (by rw [has2]; exact a1) (fun e => a2 e.symm)]
  have key : ∀ r, hasV ns r = true → toAt (setNV (setNV (setNV (setNV ns q a) a q) p a) a p) r = if r = a then p else if r = p then a else if r = q then a else toAt ns r := fun r hr => by
    rw [to2 (by rw [has2]; exact hp) (by rw [has2]; exact a1) (by rw [has2]; exact hr), to2 hq a1 hr]
    split
    · rfl
    · rename_i e1
      rfl
  refine ⟨_, g1, by rw [has2, has2]; exact hp, by rw [has2, has2]; exact a1, ?_, ?_, ?_, by rw [len2, len2]⟩
  · rw [key p hp, if_neg (fun e => a2 e.symm), if_pos rfl]
  · rw [key a a1, if_pos rfl]
  · refine othersN_of (by rw [len2, len2]) (fun i => ⟨(kind2 _ _ _ _ _ i).1.trans (kind2 _ _ _ _ _ i).1, (kind2 _ _ _ _ _ i).2.trans (kind2 _ _ _ _ _ i).2⟩) fun r hr => ?_
    rw [key r hr]
    by_cases e1 : r = a
    · right; rw [if_pos e1, e1, a3]
    · by_cases e2 : r = p
      · right; rw [if_neg e1, if_pos e2, e2, ea]
      · by_cases e3 : r = q
        · left; simp [e3]
        · right; rw [if_neg e1, if_neg e2, if_neg e3]
/-- Where one is not there, or both are one, nothing is done. -/
theorem none_link {ns : List Nd} {p q : Int × Int} (h : ¬ (hasV ns p = true ∧ hasV ns q = true ∧ p ≠ q)) : linkNV ns p q = (ns, 130) ∧ moveNV ns p q = (ns, 130) ∧ joinNV ns p q = (ns, 130) :=
  ⟨if_neg h, if_neg fun e => h ⟨e.1, e.2.1, e.2.2.1⟩, if_neg fun e => h ⟨e.1, e.2.1, e.2.2.1⟩⟩
end Lx
end Go.Proofs.YtceblpjlklogpaaDoor
namespace Go.Proofs.YtceblpjlklogpaaDoor
open Go Go.RowKit
namespace Lx
set_option maxRecDepth 100000
theorem ToIn.left {w : World} {X : Nat → Prop} {a b : List (Int × Int)} {A : Option Addr} (h : ToIn w X (a ++ b) A) : ToIn w X a A := fun j hj => by
  have := h j (by simp; omega)
  rw [List.getElem_append_left hj] at this
  exact this
theorem ToIn.right {w : World} {X : Nat → Prop} {a b : List (Int × Int)} {g o : Nat} (h : ToIn w X (a ++ b) (some ⟨g, o, none⟩)) : ToIn w X b (some ⟨g, o + a.length * 2, none⟩) := fun j hj => by
  obtain ⟨g', o', ⟨e, hX⟩, h0, h1⟩ := h (a.length + j) (by simp; omega)
  cases e
  rw [List.getElem_append_right (by omega)] at h0 h1
  simp only [Nat.add_sub_cancel_left] at h0 h1
  refine ⟨g, _, ⟨rfl, hX⟩, ?_, ?_⟩
  · rw [show o + a.length * 2 + j * 2 = o + (a.length + j) * 2 by omega]; exact h0
  · rw [show o + a.length * 2 + j * 2 + 1 = o + (a.length + j) * 2 + 1 by omega]; exact h1
theorem own_curC {w : World} {base g : Nat} {e : TypeId} {size n c : Nat} {xs : List Value} (h : w.ownsRow base e size (.slice (some ⟨g, 0, none⟩) n c) n xs) : ∃ cur, n ≤ c ∧ Lies w g e cur ∧ cur.size = c * size ∧ cur.toList.take (n * size) = xs ∧ base ≤ g ∧ c ≤ maxLen := by
  rcases h.2 with ⟨h1, _⟩ | ⟨g', cap, cur, h1, h2, h3, h4, h5, h6, h7⟩
  · cases h1
  · injection h1 with h1 _ h8
    injection h1 with h1
    injection h1 with h1
    subst h1 h8
    exact ⟨cur, h4, h3, h6, h7, h2, h5⟩
theorem two_cells {w : World} {g : Nat} {t : TypeId} {a b : Value} (h : Lies w g t #[a, b]) : w.cell? ⟨g, 0, none⟩ = some a ∧ w.cell? ⟨g, 1, none⟩ = some b := ⟨h.cell 0, h.cell 1⟩
theorem lies_put2 {w : World} {g : Nat} {t : TypeId} {a b : Value} (h : Lies w g t #[a, b]) (c d : Value) : Lies ((w.setCell ⟨g, 0, none⟩ c).setCell ⟨g, 1, none⟩ d) g t #[c, d] := by
  have := (h.put 0 c).put 1 d
  simpa using this
/-- Where the ports of node j begin. -/
def offN (l : List Nd) (j : Nat) : Nat := (portsOf (l.take j)).length
theorem offN_succ (l : List Nd) (j : Nat) (h : j < l.length) : offN l (j + 1) = offN l j + (ndAt l j).to.length := by
  rw [offN, offN, portsOf_take l j h, List.length_append]
theorem portsOf_app (l m : List Nd) : portsOf (l ++ m) = portsOf l ++ portsOf m := by
  induction l with
  | nil => rfl
  | cons a r ih => simp only [List.cons_append, portsOf, ih, List.append_assoc]
theorem portsOf_split (l : List Nd) (j : Nat) (h : j < l.length) : portsOf l = portsOf (l.take j) ++ ((ndAt l j).to ++ portsOf (l.drop (j + 1))) := by
  rw [← portsOf_drop l j h, ← portsOf_app, List.take_append_drop]
theorem offN_end (l : List Nd) (j : Nat) (h : j < l.length) : offN l j + (ndAt l j).to.length ≤ (portsOf l).length := by
  have := congrArg List.length (portsOf_split l j h)
  simp only [List.length_append] at this
  rw [offN]
  omega
/-- A node's own port among those of all. -/
theorem portsOf_at (l : List Nd) (j k : Nat) (h : j < l.length) (hk : k < (ndAt l j).to.length) : (portsOf l)[offN l j + k]? = some ((ndAt l j).to.getD k (0, 0)) := by
  rw [portsOf_split l j h, offN, List.getElem?_append_right (by omega), Nat.add_sub_cancel_left, List.getElem?_append_left hk]
  simp [hk]
theorem offN_mono (l : List Nd) : ∀ (i j : Nat), i < j → j ≤ l.length → offN l i + (ndAt l i).to.length ≤ offN l j
  | i, 0, h, _ => by omega
  | i, j + 1, h, hj => by
    rw [offN_succ l j (by omega)]
    by_cases e : i = j
    · subst e; omega
    · have := offN_mono l i j (by omega) (by omega)
      omega
theorem offN_set (l : List Nd) (p q : Int × Int) : ∀ j, j ≤ l.length → offN (setNV l p q) j = offN l j
  | 0, _ => by simp [offN, portsOf]
  | j + 1, h => by rw [offN_succ _ _ (by rw [setNV_len]; omega), offN_succ _ _ (by omega), offN_set l p q j (by omega), (setNV_kind l p q j).2.1]
theorem offN_all (l : List Nd) : offN l l.length = (portsOf l).length := by rw [offN, List.take_length]
/-- All ports, where one has another one. -/
theorem portsOf_set (l : List Nd) (p q : Int × Int) (hp : hasV l p = true) : portsOf (setNV l p q) = (portsOf l).set (offN l p.1.toNat + p.2.toNat) q := by
  obtain ⟨p1, p2, p3, p4⟩ := (hasV_iff l p).1 hp
  have hpl : p.1.toNat < l.length := by omega
  have hpk : p.2.toNat < (ndAt l p.1.toNat).to.length := by omega
  have e1 : portsOf (setNV l p q) = portsOf (l.take p.1.toNat) ++ ((ndAt l p.1.toNat).to.set p.2.toNat q ++ portsOf (l.drop (p.1.toNat + 1))) := by
    rw [portsOf_split (setNV l p q) p.1.toNat (by rw [setNV_len]; exact hpl), setNV_at, if_pos ⟨rfl, hpl⟩]
    simp only [setNV]
    rw [List.take_set_of_le (Nat.le_refl _), List.drop_set_of_lt (Nat.lt_succ_self _)]
  rw [e1]
  conv => rhs; rw [portsOf_split l p.1.toNat hpl]
  rw [offN, List.set_append_right _ _ (by omega), Nat.add_sub_cancel_left, List.set_append_left _ _ hpk]
theorem cellsTo_set : ∀ (l : List (Int × Int)) (k : Nat) (a b : Int), k < l.length → cellsTo (l.set k (a, b)) = ((cellsTo l).set (k * 2) (.int .i64 a)).set (k * 2 + 1) (.int .i64 b)
  | [], k, a, b, h => by simp at h
  | x :: r, 0, a, b, _ => rfl
  | x :: r, k + 1, a, b, h => by
    rw [List.set_cons_succ, cellsTo, cellsTo_set r k a b (by simpa using h), cellsTo, show (k + 1) * 2 = k * 2 + 1 + 1 by omega]
    rfl
/-- Block G is a row of nodes of the call's own: of the first k all lies in blocks of its own, their ports in block gp, one node's behind the other's. -/
structure Cut (w : World) (D G gp m : Nat) (l : List Nd) (k : Nat) (cs ps : Array Value) : Prop where
  lies : Lies w G 28 cs
  plies : Lies w gp 46 ps
  size : m * 6 ≤ cs.size
  len : m = l.length
  own : D ≤ G ∧ D ≤ gp ∧ gp ≠ G
  pc : ∀ (j : Nat) (u : Value), (cellsTo (portsOf l))[j]? = some u → ps[j]? = some u
  new : ∀ j, j < k → ∃ B b C c, (∀ q, q < 6 → cs[j * 6 + q]? = (cellsNd (ndAt l j) B b C c)[q]?) ∧ NdB (ndAt l j) ∧ AltIn w (fun g => D ≤ g ∧ g ≠ G ∧ g ≠ gp) (ndAt l j).alts B ∧ ((ndAt l j).to ≠ [] → C = some ⟨gp, offN l j * 2, none⟩)
  old : ∀ j, k ≤ j → j < m → ∃ B b C c, (∀ q, q < 6 → cs[j * 6 + q]? = (cellsNd (ndAt l j) B b C c)[q]?) ∧ NdIn w (fun g => g ≠ G ∧ g ≠ gp) (ndAt l j) B C
section
variable {w w' : World} {D G gp m k : Nat} {l : List Nd} {cs ps : Array Value}
theorem Cut.below (h : Cut w D G gp m l k cs ps) {E : Nat} (hb : Below E w w') (hE : w.heap.size ≤ E) : Cut w' D G gp m l k cs ps := by
  refine ⟨h.lies.below hb (by have := h.lies.lt; omega), h.plies.below hb (by have := h.plies.lt; omega), h.size, h.len, h.own, h.pc, fun j hj => ?_, fun j hj hjm => ?_⟩
  · obtain ⟨B, b, C, c, h5, h6, h7, h8⟩ := h.new j hj
    exact ⟨B, b, C, c, h5, h6, h7.below hb hE, h8⟩
  · obtain ⟨B, b, C, c, h5, h6⟩ := h.old j hj hjm
    exact ⟨B, b, C, c, h5, h6.below hb hE⟩
/-- The ports of a node of its own. -/
theorem Cut.to_ (h : Cut w D G gp m l k cs ps) {X : Nat → Prop} (hX : X gp) {j : Nat} (hj : j < m) {C : Option Addr} (hC : (ndAt l j).to ≠ [] → C = some ⟨gp, offN l j * 2, none⟩) : ToIn w X (ndAt l j).to C := fun i hi => by
  have hn : (ndAt l j).to ≠ [] := fun e => by rw [e] at hi; simp at hi
  have hl := h.len
  have e := portsOf_at l j i (by omega) hi
  have hlt : offN l j + i < (portsOf l).length := by have := offN_end l j (by omega); omega
  rw [List.getElem?_eq_getElem hlt] at e
  have e2 : (portsOf l)[offN l j + i]'hlt = (ndAt l j).to[i]'hi := by
    rw [Option.some.inj e]; simp [hi]
  obtain ⟨c0, c1⟩ := cellsTo_at (portsOf l) (offN l j + i) hlt
  rw [e2] at c0 c1
  refine ⟨gp, offN l j * 2, ⟨hC hn, hX⟩, ?_, ?_⟩
  · rw [h.plies.cell, show offN l j * 2 + i * 2 = (offN l j + i) * 2 by omega]; exact h.pc _ _ c0
  · rw [h.plies.cell, show offN l j * 2 + i * 2 + 1 = (offN l j + i) * 2 + 1 by omega]; exact h.pc _ _ c1
theorem Cut.half (h : Cut w D G gp m l m cs ps) : Half w (fun g => D ≤ g ∧ g ≠ G) G m l m cs := by
  refine ⟨h.lies, h.size, fun j hj => ?_, fun j hj hjm => absurd hjm (by omega)⟩
  obtain ⟨B, b, C, c, h5, h6, h7, h8⟩ := h.new j hj
  exact ⟨B, b, C, c, h5, h6, h7.keep (keep_wide fun g hg _ => ⟨hg.1, hg.2.1⟩), h.to_ ⟨h.own.2.1, h.own.2.2⟩ hj h8⟩
/-- All are there. -/
theorem Cut.row (h : Cut w D G gp m l m cs ps) : NdsIn w (fun g => D ≤ g) l (some ⟨G, 0, none⟩) := h.half.row h.len h.own.1 (fun _ hg _ => hg.1)
/-- One node as it lies. -/
theorem Cut.get (h : Cut w D G gp m l m cs ps) {j : Nat} (hj : j < m) (hn : 0 < (ndAt l j).to.length) : ∃ c, w.cell? ⟨G, j * 6 + 5, none⟩ = some (.slice (some ⟨gp, offN l j * 2, none⟩) (ndAt l j).to.length (capN (ndAt l j).to.length c)) := by
  obtain ⟨B, b, C, c, h5, _, _, h8⟩ := h.new j hj
  have hC := h8 (fun e => by rw [e] at hn; simp at hn)
  subst hC
  exact ⟨c, by rw [h.lies.cell]; exact h5 5 (by omega)⟩
/-- One port has another one. -/
theorem Cut.put (h : Cut w D G gp m l m cs ps) (p : Int × Int) (a b : Int) (hp : hasV l p = true) :
    ∃ ps', Cut ((w.setCell ⟨gp, (offN l p.1.toNat + p.2.toNat) * 2, none⟩ (.int .i64 a)).setCell ⟨gp, (offN l p.1.toNat + p.2.toNat) * 2 + 1, none⟩ (.int .i64 b)) D G gp m (setNV l p (a, b)) m cs ps' := by
  obtain ⟨p1, p2, p3, p4⟩ := (hasV_iff l p).1 hp
  have hl := h.len
  have hne := h.own.2.2
  have hlt : offN l p.1.toNat + p.2.toNat < (portsOf l).length := by have := offN_end l p.1.toNat (by omega); omega
  refine ⟨_, (h.lies.far (p := ⟨gp, _, none⟩) (fun e => hne e.symm) _).far (p := ⟨gp, _, none⟩) (fun e => hne e.symm) _, (h.plies.put _ _).put _ _, h.size, by rw [setNV_len]; exact hl, h.own, ?_, fun j hj => ?_, fun j hj hjm => absurd hjm (by omega)⟩
  · intro j u hu
    rw [portsOf_set l p (a, b) hp, cellsTo_set _ _ _ _ hlt] at hu
    have hc := cellsTo_len (portsOf l)
    have hps : ∀ i, i < (cellsTo (portsOf l)).length → i < ps.size := fun i hi => by
      have := h.pc i _ (List.getElem?_eq_getElem hi)
      exact (Array.getElem?_eq_some_iff.1 this).1
    simp only [Array.getElem?_setIfInBounds, Array.size_setIfInBounds]
    simp only [List.getElem?_set, List.length_set] at hu
    have h1 := hps ((offN l p.1.toNat + p.2.toNat) * 2) (by omega)
    have h2 := hps ((offN l p.1.toNat + p.2.toNat) * 2 + 1) (by omega)
    by_cases e1 : (offN l p.1.toNat + p.2.toNat) * 2 + 1 = j
    · rw [if_pos e1, if_pos (by omega)] at hu
      rw [if_pos e1, if_pos (by omega)]
      exact hu
    · rw [if_neg e1] at hu ⊢
      by_cases e2 : (offN l p.1.toNat + p.2.toNat) * 2 = j
      · rw [if_pos e2, if_pos (by omega)] at hu
        rw [if_pos e2, if_pos (by omega)]
        exact hu
      · rw [if_neg e2] at hu ⊢
        exact h.pc j u hu
  · obtain ⟨B, b', C, c, h5, h6, h7, h8⟩ := h.new j hj
    obtain ⟨k1, k2, k3⟩ := setNV_kind l p (a, b) j
    have hcl : cellsNd (ndAt (setNV l p (a, b)) j) B b' C c = cellsNd (ndAt l j) B b' C c := by
      rw [setNV_at]
      split
      · simp [cellsNd]
      · rfl
    refine ⟨B, b', C, c, fun q hq => by rw [hcl]; exact h5 q hq, ?_, ?_, fun hn => ?_⟩
    · rw [setNV_at]
      split
      · exact ⟨h6.1, h6.2.1, by simpa using h6.2.2⟩
      · exact h6
    · rw [k3]
      exact (h7.keep (keep_set _ _ (by simp))).keep (keep_set _ _ (by simp))
    · rw [offN_set l p (a, b) j (by omega)]
      exact h8 (fun e => hn (List.eq_nil_of_length_eq_zero (by rw [k2, e]; rfl)))
theorem Cut.far (h : Cut w D G gp m l m cs ps) (p : Addr) (hp : p.block < D) (u : Value) : Cut (w.setCell p u) D G gp m l m cs ps := by
  have ho := h.own
  refine ⟨h.lies.far (p := p) (by omega) u, h.plies.far (p := p) (by omega) u, h.size, h.len, h.own, h.pc, fun j hj => ?_, fun j hj hjm => absurd hjm (by omega)⟩
  obtain ⟨B, b, C, c, h5, h6, h7, h8⟩ := h.new j hj
  exact ⟨B, b, C, c, h5, h6, h7.keep (keep_set p u (by omega)), h8⟩
theorem Cut.less {E : Nat} (h : Cut w D G gp m l m cs ps) (hE : E ≤ D) : Cut w E G gp m l m cs ps := by
  have ho := h.own
  refine ⟨h.lies, h.plies, h.size, h.len, ⟨by omega, by omega, ho.2.2⟩, h.pc, fun j hj => ?_, fun j hj hjm => absurd hjm (by omega)⟩
  obtain ⟨B, b, C, c, h5, h6, h7, h8⟩ := h.new j hj
  exact ⟨B, b, C, c, h5, h6, h7.keep (keep_wide fun g hg _ => ⟨by omega, hg.2⟩), h8⟩
/-- The next node. -/
theorem Cut.step (h : Cut w D G gp m l k cs ps) (hk : k < m) (hD : D ≤ w.heap.size) {cs' : Array Value} (hfar : ∀ g, g ≠ G → g < w.heap.size → w'.heap[g]? = w.heap[g]?) (hL : Lies w' G 28 cs') (hs : cs'.size = cs.size)
    {B C : Option Addr} {b c : Nat} (h1 : ∀ q, q < 6 → cs'[k * 6 + q]? = (cellsNd (ndAt l k) B b C c)[q]?) (h2 : ∀ j, (j < k * 6 ∨ k * 6 + 6 ≤ j) → cs'[j]? = cs[j]?) (hB : NdB (ndAt l k))
    (hA : AltIn w' (fun g => w.heap.size ≤ g) (ndAt l k).alts B) (hC : (ndAt l k).to ≠ [] → C = some ⟨gp, offN l k * 2, none⟩) : Cut w' D G gp m l (k + 1) cs' ps := by
  have hgp := h.plies.lt
  have hG := h.lies.lt
  have hcell : ∀ g j, g ≠ G → g < w.heap.size → w'.cell? ⟨g, j, none⟩ = w.cell? ⟨g, j, none⟩ := fun g j h1 h2 => World.cell?_of_block (hfar g h1 h2)
  refine ⟨hL, (hfar gp h.own.2.2 hgp).trans h.plies, by rw [hs]; exact h.size, h.len, h.own, h.pc, fun j hj => ?_, fun j hj hjm => ?_⟩
  · by_cases e : j = k
    · subst e
      exact ⟨B, b, C, c, h1, hB, hA.keep (keep_wide fun g hg _ => ⟨by omega, by omega, by omega⟩), hC⟩
    · obtain ⟨B', b', C', c', h5, h6, h7, h8⟩ := h.new j (by omega)
      exact ⟨B', b', C', c', fun q hq => by rw [h2 _ (by omega)]; exact h5 q hq, h6, h7.keep (fun g i hg hlt => ⟨hcell g i hg.2.1 hlt, hg⟩), h8⟩
  · obtain ⟨B', b', C', c', h5, h6⟩ := h.old j (by omega) hjm
    exact ⟨B', b', C', c', fun q hq => by rw [h2 _ (by omega)]; exact h5 q hq, h6.keep (fun g i hg hlt => ⟨hcell g i hg.1 hlt, hg⟩)⟩
end
end Lx
end Go.Proofs.YtceblpjlklogpaaDoor
