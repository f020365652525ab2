/-
  Texts that lie one behind the other: NlRo NwRw NwJ.
-/
import Derived.Test.YtceblpjlklogpaaC1
import Derived.Test.YtceblpjlklogpaaRows
import Derived.Test.YtceblpjlklogpaaC9
import Derived.ProofKit
import Derived.OpenShut
import Derived.ChangeArms
import Derived.Carry
import Derived.WideKeyArgs
import Derived.LaidMore
import Derived.LaidSub
import Derived.Lib.LaidTab
import Derived.Stop.Joined
import Derived.SizedLaws
namespace Go.Proofs.Ytceblpjlklogpaa
open Go.ChangeShapes Go.WideShapes Go.ChangeAt Go.RowKit
open Go.ChangeMaps (open_string shut_string)
namespace Lx
set_option maxRecDepth 100000
theorem own_ : ownKnob Try.prog.godebug = none := by kernel_rfl
section
variable {H : Type} {enc : TypeId × Value → H}
theorem cN6 : Try.prog.cellsOf 43 = 6 := by kernel_rfl
theorem cA2 : Try.prog.cellsOf 67 = 2 := by kernel_rfl
theorem cP2 : Try.prog.cellsOf 26 = 2 := by kernel_rfl
theorem bA24 : Try.prog.bytesOf 67 = 24 := by kernel_rfl
theorem bP16 : Try.prog.bytesOf 26 = 16 := by kernel_rfl
theorem cc3 : Try.prog.cellsOf 3 = 1 := by kernel_rfl
theorem cc9 : Try.prog.cellsOf 9 = 1 := by kernel_rfl
theorem ccA : Try.prog.cellsOf 40 = 1 := by kernel_rfl
theorem ccP : Try.prog.cellsOf 41 = 1 := by kernel_rfl
theorem cells_getN {w : World} {base : Nat} {a : Addr} {n : Nat} {cs : List Value} (h : w.cells? base a n = some cs) : ∀ j, j < n → w.cell? (a.add j) = cs[j]? := (World.cells?_some h).2.2
theorem spot_noneN {w : World} {a : Addr} {v : Value} (h : w.cell? a = some v) : a.spot = none := by
  unfold World.cell? at h
  split at h
  · split at h
    · cases h
    · rename_i hs; simpa using hs
  · cases h
theorem weights_memN {P : Program} {e : TypeId} : ∀ (L : List (DataW H)) (d : DataW H), d ∈ L → ∀ q ∈ DataW.weights P e d, q ∈ DataW.weightsAll P e L
  | [], d, h, _, _ => by cases h
  | a :: r, d, h, q, hq => by
    rw [DataW.weightsAll, List.mem_append]
    rcases List.mem_cons.1 h with rfl | h
    · exact .inl hq
    · exact .inr (weights_memN r d h q hq)
theorem row_ofN {α : Type} {Q : Nat → α → Prop} : ∀ (n : Nat), (∀ i, i < n → ∃ t, Q i t) → ∃ l : List α, l.length = n ∧ ∀ (i : Nat) (hi : i < l.length), Q i (l[i]'hi)
  | 0, _ => ⟨[], rfl, fun i hi => by simp at hi⟩
  | n + 1, h => by
    obtain ⟨l, hl, hq⟩ := row_ofN n fun i hi => h i (by omega)
    obtain ⟨t, ht⟩ := h n (by omega)
    refine ⟨l ++ [t], by simp [hl], fun i hi => ?_⟩
    rcases Nat.lt_or_ge i l.length with hlt | hge
    · rw [List.getElem_append_left hlt]; exact hq i hlt
    · have e : i = n := by simp at hi; omega
      subst e
      rw [List.getElem_append_right (by omega)]
      simpa [hl] using ht
/-- An alternative's reading. -/
theorem open_arity {W : World} {base : Nat} {sp : Nat → Bool} {hd : Bool} {fuel : Nat} {cs : List Value} {x : DataW H × List MemPlace} (h : DataW.trod enc Try.prog W base sp hd fuel 67 cs = some x) :
    ∃ (s : ByteArray) (n : Int), cs = [.string s, .int .i64 n] ∧ x.1 = .agg [.lit (.string s.data.toList), .lit (.int .i64 n)] := by
  obtain ⟨xs, m, e, hx, hl, hlen, hf⟩ := DataW.trod_struct Try.underlying67 h
  rw [cA2] at hl
  match cs, hl with
  | [c0, c1], _ =>
  match xs, hlen with
  | [x0, x1], _ =>
  have h0 := hf 0 { name := "Name", type := 9, offset := 0, embedded := false, tag := "", pkgPath := "", byteOffset := 0 } rfl
  have h1 := hf 1 { name := "N", type := 3, offset := 1, embedded := false, tag := "", pkgPath := "", byteOffset := 16 } rfl
  dsimp only at h0 h1
  rw [cc9] at h0
  rw [cc3] at h1
  dsimp at h0 h1
  obtain ⟨s, e0, y0, _⟩ := DataW.trod_string Try.underlying9 h0
  obtain ⟨n, e1, y1, _⟩ := DataW.trod_int Try.underlying3 h1
  obtain rfl := (List.cons.inj e0).1
  obtain rfl := (List.cons.inj e1).1
  subst y0 y1
  exact ⟨s, n, rfl, by rw [hx]; simp⟩
theorem open_port {W : World} {base : Nat} {sp : Nat → Bool} {hd : Bool} {fuel : Nat} {cs : List Value} {x : DataW H × List MemPlace} (h : DataW.trod enc Try.prog W base sp hd fuel 26 cs = some x) :
    ∃ (a b : Int), cs = [.int .i64 a, .int .i64 b] := by
  obtain ⟨xs, m, e, hx, hl, hlen, hf⟩ := DataW.trod_struct Try.underlying26 h
  rw [cP2] at hl
  match cs, hl with
  | [c0, c1], _ =>
  match xs, hlen with
  | [x0, x1], _ =>
  have h0 := hf 0 { name := "Node", type := 3, offset := 0, embedded := false, tag := "", pkgPath := "", byteOffset := 0 } rfl
  have h1 := hf 1 { name := "Slot", type := 3, offset := 1, embedded := false, tag := "", pkgPath := "", byteOffset := 8 } rfl
  dsimp only at h0 h1
  rw [cc3] at h0 h1
  dsimp at h0 h1
  obtain ⟨s, e0, y0, _⟩ := DataW.trod_int Try.underlying3 h0
  obtain ⟨n, e1, y1, _⟩ := DataW.trod_int Try.underlying3 h1
  obtain rfl := (List.cons.inj e0).1
  obtain rfl := (List.cons.inj e1).1
  exact ⟨s, n, rfl⟩
theorem open_alts {W : World} {base : Nat} {sp : Nat → Bool} {hd : Bool} {fuel : Nat} {v : Value} {y : DataW H × List MemPlace} (hv : DataW.trod enc Try.prog W base sp hd fuel 40 [v] = some y)
    (hw : ∀ q ∈ DataW.weights Try.prog 40 y.1, q ≤ reachBytes) : ∃ (l : List (ByteArray × Int)) (A : Option Addr) (c : Nat), v = .slice A l.length (capN l.length c) ∧ AltIn W AnyB l A ∧ l.length ≤ 140737488351232 := by
  rcases DataW.trod_slice Try.underlying40 hv with ⟨e1, rfl⟩ | ⟨p, len, cap, elems, rest, m', em, e1, rfl, hb, hl, hm, hlen, hel, _, _⟩
  · obtain rfl := (List.cons.inj e1).1
    exact ⟨[], none, 0, rfl, AltIn.nil, by simp⟩
  · obtain rfl := (List.cons.inj e1).1
    have hwe : ∀ (i : Nat) (y' : DataW H × List MemPlace), elems[i]? = some y' → ∀ q ∈ DataW.weights Try.prog 67 y'.1, q ≤ reachBytes := fun i y' hy q hq => hw q (by
      rw [DataW.weights, Try.underlying40]
      have := weights_memN (elems.map (·.1)) y'.1 (List.mem_map_of_mem (List.mem_of_getElem? hy)) q hq
      simp [this])
    have hlen' : len ≤ 140737488351232 := by
      have := hw ((elems.length + rest.length) * 24) (by
        rw [DataW.weights, Try.underlying40]
        simp [bA24])
      have : (elems.length + rest.length) * 24 ≤ 140737488351232 := this
      omega
    obtain ⟨l, hll, hq⟩ := row_ofN (Q := fun i (t : ByteArray × Int) => W.cells? base (p.add (i * 2)) 2 = some [.string t.1, .int .i64 t.2] ∧ t.1.size ≤ 140737488351232) len fun i hi => by
      have h1 := hel i hi
      rw [cA2] at h1
      obtain ⟨y', hy'⟩ : ∃ y', elems[i]? = some y' := ⟨_, List.getElem?_eq_getElem (by omega)⟩
      rw [hy', Option.bind_eq_some_iff] at h1
      obtain ⟨cs', hc', ht'⟩ := h1
      obtain ⟨s, n, rfl, hx'⟩ := open_arity ht'
      refine ⟨(s, n), hc', ?_⟩
      have := hwe i y' hy' s.data.toList.length (by
        rw [hx', DataW.weights, Try.underlying67]
        simp [DataW.weightsEach, DataW.weights])
      simpa [reachBytes] using this
    subst hll
    refine ⟨l, some p, cap, by rw [capN_of hl], fun i hi => ?_, hlen'⟩
    have hps : p.spot = none := by
      obtain ⟨hc, _⟩ := hq 0 (by omega)
      have := cells_getN hc 0 (by omega)
      have := spot_noneN (this.trans (rfl : ([_, _] : List Value)[0]? = some _))
      simpa [Addr.add] using this
    obtain ⟨pb, po, ps⟩ := p
    dsimp only at hps
    subst hps
    obtain ⟨hc, hsz⟩ := hq i hi
    have hcell : ∀ j, j < 2 → W.cell? ⟨pb, po + i * 2 + j, none⟩ = ([.string (l[i]'hi).1, .int .i64 (l[i]'hi).2] : List Value)[j]? := fun j hj => by
      have ea : ((⟨pb, po, none⟩ : Addr).add (i * 2)).add j = ⟨pb, po + i * 2 + j, none⟩ := by rw [nadd, nadd]
      rw [← cells_getN hc j hj, ea]
    exact ⟨pb, po, ⟨rfl, trivial⟩, hcell 0 (by omega), hcell 1 (by omega), hsz⟩
theorem open_to {W : World} {base : Nat} {sp : Nat → Bool} {hd : Bool} {fuel : Nat} {v : Value} {y : DataW H × List MemPlace} (hv : DataW.trod enc Try.prog W base sp hd fuel 41 [v] = some y)
    (hw : ∀ q ∈ DataW.weights Try.prog 41 y.1, q ≤ reachBytes) : ∃ (l : List (Int × Int)) (A : Option Addr) (c : Nat), v = .slice A l.length (capN l.length c) ∧ ToIn W AnyB l A ∧ l.length ≤ 140737488351232 := by
  rcases DataW.trod_slice Try.underlying41 hv with ⟨e1, rfl⟩ | ⟨p, len, cap, elems, rest, m', em, e1, rfl, hb, hl, hm, hlen, hel, _, _⟩
  · obtain rfl := (List.cons.inj e1).1
    exact ⟨[], none, 0, rfl, ToIn.nil, by simp⟩
  · obtain rfl := (List.cons.inj e1).1
    have hlen' : len ≤ 140737488351232 := by
      have := hw ((elems.length + rest.length) * 16) (by
        rw [DataW.weights, Try.underlying41]
        simp [bP16])
      have : (elems.length + rest.length) * 16 ≤ 140737488351232 := this
      omega
    obtain ⟨l, hll, hq⟩ := row_ofN (Q := fun i (t : Int × Int) => W.cells? base (p.add (i * 2)) 2 = some [.int .i64 t.1, .int .i64 t.2]) len fun i hi => by
      have h1 := hel i hi
      rw [cP2] at h1
      obtain ⟨y', hy'⟩ : ∃ y', elems[i]? = some y' := ⟨_, List.getElem?_eq_getElem (by omega)⟩
      rw [hy', Option.bind_eq_some_iff] at h1
      obtain ⟨cs', hc', ht'⟩ := h1
      obtain ⟨a, b, rfl⟩ := open_port ht'
      exact ⟨(a, b), hc'⟩
    subst hll
    refine ⟨l, some p, cap, by rw [capN_of hl], fun i hi => ?_, hlen'⟩
    have hps : p.spot = none := by
      have hc := hq 0 (by omega)
      have := cells_getN hc 0 (by omega)
      have := spot_noneN (this.trans (rfl : ([_, _] : List Value)[0]? = some _))
      simpa [Addr.add] using this
    obtain ⟨pb, po, ps⟩ := p
    dsimp only at hps
    subst hps
    have hc := hq i hi
    have hcell : ∀ j, j < 2 → W.cell? ⟨pb, po + i * 2 + j, none⟩ = ([.int .i64 (l[i]'hi).1, .int .i64 (l[i]'hi).2] : List Value)[j]? := fun j hj => by
      have ea : ((⟨pb, po, none⟩ : Addr).add (i * 2)).add j = ⟨pb, po + i * 2 + j, none⟩ := by rw [nadd, nadd]
      rw [← cells_getN hc j hj, ea]
    exact ⟨pb, po, ⟨rfl, trivial⟩, hcell 0 (by omega), hcell 1 (by omega)⟩
/-- A node's reading. -/
theorem open_node {W : World} {base : Nat} {sp : Nat → Bool} {hd : Bool} {fuel : Nat} {cs : List Value} {x : DataW H × List MemPlace} (h : DataW.trod enc Try.prog W base sp hd fuel 43 cs = some x)
    (hw : ∀ k ∈ DataW.weights Try.prog 43 x.1, k ≤ reachBytes) : ∃ (y : Nd) (B : Option Addr) (b : Nat) (C : Option Addr) (c : Nat), cs = cellsNd y B b C c ∧ NdIn W AnyB y B C := by
  obtain ⟨xs, m, e, hx, hl, hlen, hf⟩ := DataW.trod_struct Try.underlying43 h
  rw [cN6] at hl
  match cs, hl with
  | [c0, c1, c2, c3, c4, c5], _ =>
  match xs, hlen with
  | [x0, x1, x2, x3, x4, x5], _ =>
  have h0 := hf 0 { name := "Kind", type := 3, offset := 0, embedded := false, tag := "", pkgPath := "", byteOffset := 0 } rfl
  have h1 := hf 1 { name := "Level", type := 3, offset := 1, embedded := false, tag := "", pkgPath := "", byteOffset := 8 } rfl
  have h2 := hf 2 { name := "N", type := 3, offset := 2, embedded := false, tag := "", pkgPath := "", byteOffset := 16 } rfl
  have h3 := hf 3 { name := "Name", type := 9, offset := 3, embedded := false, tag := "", pkgPath := "", byteOffset := 24 } rfl
  have h4 := hf 4 { name := "Alts", type := 40, offset := 4, embedded := false, tag := "", pkgPath := "", byteOffset := 40 } rfl
  have h5 := hf 5 { name := "To", type := 41, offset := 5, embedded := false, tag := "", pkgPath := "", byteOffset := 64 } rfl
  dsimp only at h0 h1 h2 h3 h4 h5
  rw [cc3] at h0 h1 h2
  rw [cc9] at h3
  rw [ccA] at h4
  rw [ccP] at h5
  dsimp at h0 h1 h2 h3 h4 h5
  obtain ⟨k, e0, y0, _⟩ := DataW.trod_int Try.underlying3 h0
  obtain ⟨lv, e1, y1, _⟩ := DataW.trod_int Try.underlying3 h1
  obtain ⟨n, e2, y2, _⟩ := DataW.trod_int Try.underlying3 h2
  obtain ⟨s, e3, y3, _⟩ := DataW.trod_string Try.underlying9 h3
  obtain rfl := (List.cons.inj e0).1
  obtain rfl := (List.cons.inj e1).1
  obtain rfl := (List.cons.inj e2).1
  obtain rfl := (List.cons.inj e3).1
  subst y0 y1 y2 y3
  have hx1 : x.1 = .agg [.lit (.int .i64 k), .lit (.int .i64 lv), .lit (.int .i64 n), .lit (.string s.data.toList), x4.1, x5.1] := by rw [hx]; simp
  obtain ⟨al, B, b, rfl, hA, hAl⟩ := open_alts h4 (fun q hq => hw q (by
    rw [hx1, DataW.weights, Try.underlying43]
    simp [DataW.weightsEach, DataW.weights, hq]))
  obtain ⟨tp, C, c, rfl, hT, hTl⟩ := open_to h5 (fun q hq => hw q (by
    rw [hx1, DataW.weights, Try.underlying43]
    simp [DataW.weightsEach, DataW.weights, hq]))
  have hs : s.size ≤ 140737488351232 := by
    have := hw s.data.toList.length (by
      rw [hx1, DataW.weights, Try.underlying43]
      simp [DataW.weightsEach, DataW.weights])
    simpa [reachBytes] using this
  exact ⟨⟨k, lv, n, s, al, tp⟩, B, b, C, c, rfl, ⟨hs, hAl, hTl⟩, hA, hT⟩
/-- A node among the arguments. -/
theorem node_arg {W : World} {base b0 : Nat} {sp : Nat → Bool} {hd : Bool} {v : Value} {d : DataW H} {ps : List MemPlace} (hval : Value.okWide Try.prog W .any b0 43 v)
    (h : DataW.Trod enc Try.prog W base sp hd 43 v d ps) (hw : ∀ k ∈ DataW.weights Try.prog 43 d, k ≤ reachBytes) : ∃ y B b C c, v = ndv y B b C c ∧ NdIn W AnyB y B C := by
  obtain ⟨cs, rfl, _⟩ := okWide_struct Try.underlying43 hval
  obtain ⟨fuel, hf⟩ := h
  obtain ⟨y, B, b, C, c, hcs, hI⟩ := open_node hf hw
  refine ⟨y, B, b, C, c, ?_, hI⟩
  have : cs = #[.int .i64 y.kind, .int .i64 y.level, .int .i64 y.n, .string y.name, .slice B y.alts.length (capN y.alts.length b), .slice C y.to.length (capN y.to.length c)] := Array.ext' hcs
  rw [this]
  rfl
/-- It reads behind the call as it read before. -/
theorem node_again {W W' : World} {v : Value} {d : DataW H} {ps : List MemPlace} (h : DataW.Trod enc Try.prog W 0 (fun _ => true) true 43 v d ps) (hb : Below W.heap.size W W') (hlt : ∀ x ∈ ps, x.block < W.heap.size)
    {sp : Nat → Bool} (hs : ∀ x ∈ ps, sp x.block = true) : DataW.Trod enc Try.prog W' 0 sp true 43 v d ps :=
  WideElems.Trod_stays (by kernel_rfl) (by kernel_rfl) (of_decide_eq_true (by kernel_rfl)) h (fun x hx => hb.same (hlt x hx)) hs
/-- The end of a row without variables whose call left all that was there as it was. -/
theorem postN_left {P : Program} {f : Func} {s : ChangeSpec} {apart fresh handsOn again : Bool} {W W' : World} {args : Array Value} {v : Value} {ds : List (DataW H)} {before : List MemPlace}
    (hW : DataW.Whole enc P f.params.toList s.vars apart W args.toList ds [] before)
    (hres : ∀ (b : Nat) (sp : Nat → Bool) (hd : Bool), DataW.TrodAll enc P W' b sp hd f.resultTypes.toList (v.resultList f.resultTypes.size) (s.fn H (ds ++ [])).results [])
    (hargs : ∀ sp : Nat → Bool, (∀ p ∈ before, sp p.block = true) → DataW.TrodAll enc P W' 0 sp true f.params.toList args.toList (s.fn H (ds ++ [])).args before)
    (hvars : ∀ sp : Nat → Bool, DataW.TrodVars enc P W' sp s.vars (s.fn H (ds ++ [])).vars [])
    (hb : Below W.heap.size W W')
    (hok : ∀ (j : Nat) (t : TypeId) (r : Value), f.resultTypes[j]? = some t → (v.resultList f.resultTypes.size)[j]? = some r → Value.okWide P W' .any 0 t r) :
    s.post enc P f apart fresh handsOn again W args v W' := by
  have hlt : ∀ p ∈ before, p.block < W.heap.size := fun p hp => hW.lt p hp
  refine ⟨ds, [], before, [], before, [], hW, hres _ _ _, hargs _ (fun p hp => by simpa using hlt p hp), hvars _, World.keptBut_mono (fun p hp => ⟨hp, .inr (.inl hp)⟩) (hb.frame (· ∈ before)), fun _ => ?_⟩
  obtain ⟨_, _, _, _, _, hz, hn⟩ := hW
  refine ⟨hok, _, _, ([] ++ before) ++ [], ⟨[] ++ before, [], trodAll_append (hargs _ (fun _ _ => rfl)) (hres _ _ _), hvars _, rfl, ?_, ?_⟩, ?_⟩
  · intro b off hp
    have hin : MemPlace.cell b off ∈ before := by simpa using hp
    rw [hb.frozen (hlt _ hin)]
    exact hz b off hin
  · intro ha
    simpa using hn ha
  · intro p hp _
    simpa using hp
end
section
variable {H : Type} {enc : TypeId × Value → H}
theorem cc3' : Try.prog.cellsOf 3 = 1 := by kernel_rfl
theorem ccN : Try.prog.cellsOf 22 = 1 := by kernel_rfl
theorem cNet : Try.prog.cellsOf 24 = 2 := by kernel_rfl
theorem bN88 : Try.prog.bytesOf 43 = 88 := by kernel_rfl
theorem open_nodes {W : World} {base : Nat} {sp : Nat → Bool} {hd : Bool} {fuel : Nat} {v : Value} {y : DataW H × List MemPlace} (hv : DataW.trod enc Try.prog W base sp hd fuel 22 [v] = some y)
    (hw : ∀ q ∈ DataW.weights Try.prog 22 y.1, q ≤ reachBytes) : ∃ (l : List Nd) (A : Option Addr) (c : Nat), v = .slice A l.length (capN l.length c) ∧ NdsIn W AnyB l A ∧ l.length ≤ 140737488351232 := by
  rcases DataW.trod_slice Try.underlying22 hv with ⟨e1, rfl⟩ | ⟨p, len, cap, elems, rest, m', em, e1, rfl, hb, hl, hm, hlen, hel, _, _⟩
  · obtain rfl := (List.cons.inj e1).1
    exact ⟨[], none, 0, rfl, NdsIn.nil, by simp⟩
  · obtain rfl := (List.cons.inj e1).1
    have hwe : ∀ (i : Nat) (y' : DataW H × List MemPlace), elems[i]? = some y' → ∀ q ∈ DataW.weights Try.prog 43 y'.1, q ≤ reachBytes := fun i y' hy q hq => hw q (by
      rw [DataW.weights, Try.underlying22]
      have := weights_memN (elems.map (·.1)) y'.1 (List.mem_map_of_mem (List.mem_of_getElem? hy)) q hq
      simp [this])
    have hlen' : len ≤ 140737488351232 := by
      have := hw ((elems.length + rest.length) * 88) (by
        rw [DataW.weights, Try.underlying22]
        simp [bN88])
      have : (elems.length + rest.length) * 88 ≤ 140737488351232 := this
      omega
    obtain ⟨l, hll, hq⟩ := row_ofN (Q := fun i (t : Nd) => ∃ (B : Option Addr) (b : Nat) (C : Option Addr) (c : Nat), W.cells? base (p.add (i * 6)) 6 = some (cellsNd t B b C c) ∧ NdIn W AnyB t B C) len fun i hi => by
      have h1 := hel i hi
      rw [cN6] at h1
      obtain ⟨y', hy'⟩ : ∃ y', elems[i]? = some y' := ⟨_, List.getElem?_eq_getElem (by omega)⟩
      rw [hy', Option.bind_eq_some_iff] at h1
      obtain ⟨cs', hc', ht'⟩ := h1
      obtain ⟨t, B, b, C, c, rfl, hI⟩ := open_node ht' (hwe i y' hy')
      exact ⟨t, B, b, C, c, hc', hI⟩
    subst hll
    refine ⟨l, some p, cap, by rw [capN_of hl], fun i hi => ?_, hlen'⟩
    have hps : p.spot = none := by
      obtain ⟨B, b, C, c, hc, _⟩ := hq 0 (by omega)
      have := cells_getN hc 0 (by omega)
      have := spot_noneN (this.trans (rfl : (cellsNd (l[0]'(by omega)) B b C c)[0]? = some _))
      simpa [Addr.add] using this
    obtain ⟨pb, po, ps⟩ := p
    dsimp only at hps
    subst hps
    obtain ⟨B, b, C, c, hc, hI⟩ := hq i hi
    have hcell : ∀ j, j < 6 → W.cell? ⟨pb, po + i * 6 + j, none⟩ = (cellsNd (l[i]'hi) B b C c)[j]? := fun j hj => by
      have ea : ((⟨pb, po, none⟩ : Addr).add (i * 6)).add j = ⟨pb, po + i * 6 + j, none⟩ := by rw [nadd, nadd]
      rw [← cells_getN hc j hj, ea]
    exact ⟨pb, po, B, b, C, c, ⟨rfl, trivial⟩, ⟨hcell 0 (by omega), hcell 1 (by omega), hcell 2 (by omega), hcell 3 (by omega), hcell 4 (by omega), hcell 5 (by omega)⟩, hI⟩
/-- A net's reading. -/
theorem open_net {W : World} {base : Nat} {sp : Nat → Bool} {hd : Bool} {fuel : Nat} {cs : List Value} {x : DataW H × List MemPlace} (h : DataW.trod enc Try.prog W base sp hd fuel 24 cs = some x)
    (hw : ∀ k ∈ DataW.weights Try.prog 24 x.1, k ≤ reachBytes) : ∃ (l : List Nd) (A : Option Addr) (c : Nat) (cap : Int), cs = [.slice A l.length (capN l.length c), .int .i64 cap] ∧ NdsIn W AnyB l A ∧ l.length ≤ 140737488351232 := by
  obtain ⟨xs, m, e, hx, hl, hlen, hf⟩ := DataW.trod_struct Try.underlying24 h
  rw [cNet] at hl
  match cs, hl with
  | [c0, c1], _ =>
  match xs, hlen with
  | [x0, x1], _ =>
  have h0 := hf 0 { name := "Nodes", type := 22, offset := 0, embedded := false, tag := "", pkgPath := "", byteOffset := 0 } rfl
  have h1 := hf 1 { name := "Cap", type := 3, offset := 1, embedded := false, tag := "", pkgPath := "", byteOffset := 24 } rfl
  dsimp only at h0 h1
  rw [ccN] at h0
  rw [cc3'] at h1
  dsimp at h0 h1
  obtain ⟨k, e1, y1, _⟩ := DataW.trod_int Try.underlying3 h1
  obtain rfl := (List.cons.inj e1).1
  subst y1
  have hx1 : x.1 = .agg [x0.1, .lit (.int .i64 k)] := by rw [hx]; simp
  obtain ⟨l, A, c, rfl, hN, hn⟩ := open_nodes h0 (fun q hq => hw q (by
    rw [hx1, DataW.weights, Try.underlying24]
    simp [DataW.weightsEach, DataW.weights, hq]))
  exact ⟨l, A, c, k, rfl, hN, hn⟩
/-- A net among the arguments. -/
theorem net_arg {W : World} {base b0 : Nat} {sp : Nat → Bool} {hd : Bool} {v : Value} {d : DataW H} {ps : List MemPlace} (hval : Value.okWide Try.prog W .any b0 24 v)
    (h : DataW.Trod enc Try.prog W base sp hd 24 v d ps) (hw : ∀ k ∈ DataW.weights Try.prog 24 d, k ≤ reachBytes) : ∃ (l : List Nd) (A : Option Addr) (c : Nat) (cap : Int), v = .agg #[.slice A l.length (capN l.length c), .int .i64 cap] ∧ NdsIn W AnyB l A ∧ l.length ≤ 140737488351232 := by
  obtain ⟨cs, rfl, _⟩ := okWide_struct Try.underlying24 hval
  obtain ⟨fuel, hf⟩ := h
  obtain ⟨l, A, c, cap, hcs, hN, hn⟩ := open_net hf hw
  refine ⟨l, A, c, cap, ?_, hN, hn⟩
  have : cs = #[.slice A l.length (capN l.length c), .int .i64 cap] := Array.ext' hcs
  rw [this]
theorem net_again {W W' : World} {v : Value} {d : DataW H} {ps : List MemPlace} (h : DataW.Trod enc Try.prog W 0 (fun _ => true) true 24 v d ps) (hb : Below W.heap.size W W') (hlt : ∀ x ∈ ps, x.block < W.heap.size)
    {sp : Nat → Bool} (hs : ∀ x ∈ ps, sp x.block = true) : DataW.Trod enc Try.prog W' 0 sp true 24 v d ps :=
  WideElems.Trod_stays (by kernel_rfl) (by kernel_rfl) (of_decide_eq_true (by kernel_rfl)) h (fun x hx => hb.same (hlt x hx)) hs
end
end Lx
end Go.Proofs.Ytceblpjlklogpaa
namespace Go.Proofs.Ytceblpjlklogpaa
open Go.ChangeShapes Go.WideShapes Go.ChangeAt Go.RowKit
namespace Lx
set_option maxRecDepth 100000
section
variable {H : Type} {enc : TypeId × Value → H}
theorem cTw : Try.prog.cellsOf 28 = 4 := by kernel_rfl
theorem open_two {W : World} {base : Nat} {sp : Nat → Bool} {hd : Bool} {fuel : Nat} {cs : List Value} {x : DataW H × List MemPlace} (h : DataW.trod enc Try.prog W base sp hd fuel 28 cs = some x) :
    ∃ (a b c d : Int), cs = [.int .i64 a, .int .i64 b, .int .i64 c, .int .i64 d] := by
  obtain ⟨xs, m, e, hx, hl, hlen, hf⟩ := DataW.trod_struct Try.underlying28 h
  rw [cTw] at hl
  match cs, hl with
  | [c0, c1, c2, c3], _ =>
  match xs, hlen with
  | [x0, x1], _ =>
  have h0 := hf 0 { name := "P", type := 26, offset := 0, embedded := false, tag := "", pkgPath := "", byteOffset := 0 } rfl
  have h1 := hf 1 { name := "Q", type := 26, offset := 2, embedded := false, tag := "", pkgPath := "", byteOffset := 16 } rfl
  dsimp only at h0 h1
  rw [cP2] at h0 h1
  dsimp at h0 h1
  obtain ⟨a, b, e0⟩ := open_port h0
  obtain ⟨c, d, e1⟩ := open_port h1
  replace e0 : [c0, c1] = [Value.int .i64 a, .int .i64 b] := e0
  replace e1 : [c2, c3] = [Value.int .i64 c, .int .i64 d] := e1
  simp only [List.cons.injEq, and_true] at e0 e1
  obtain ⟨rfl, rfl⟩ := e0
  obtain ⟨rfl, rfl⟩ := e1
  exact ⟨a, b, c, d, rfl⟩
theorem two_arg {W : World} {base b0 : Nat} {sp : Nat → Bool} {hd : Bool} {v : Value} {d : DataW H} {ps : List MemPlace} (hval : Value.okWide Try.prog W .any b0 28 v)
    (h : DataW.Trod enc Try.prog W base sp hd 28 v d ps) : ∃ (pa pb qa qb : Int), v = .agg #[.int .i64 pa, .int .i64 pb, .int .i64 qa, .int .i64 qb] := by
  obtain ⟨cs, rfl, _⟩ := okWide_struct Try.underlying28 hval
  obtain ⟨fuel, hf⟩ := h
  obtain ⟨pa, pb, qa, qb, hcs⟩ := open_two hf
  refine ⟨pa, pb, qa, qb, ?_⟩
  have : cs = #[.int .i64 pa, .int .i64 pb, .int .i64 qa, .int .i64 qb] := Array.ext' hcs
  rw [this]
theorem two_again {W W' : World} {v : Value} {d : DataW H} {ps : List MemPlace} (h : DataW.Trod enc Try.prog W 0 (fun _ => true) true 28 v d ps) (hb : Below W.heap.size W W') (hlt : ∀ x ∈ ps, x.block < W.heap.size)
    {sp : Nat → Bool} (hs : ∀ x ∈ ps, sp x.block = true) : DataW.Trod enc Try.prog W' 0 sp true 28 v d ps :=
  WideElems.Trod_stays (by kernel_rfl) (by kernel_rfl) (of_decide_eq_true (by kernel_rfl)) h (fun x hx => hb.same (hlt x hx)) hs
end
end Lx
end Go.Proofs.Ytceblpjlklogpaa
namespace Go.Proofs.Ytceblpjlklogpaa
open Go Go.RowKit
namespace Lx
set_option maxRecDepth 100000
theorem wp_append_nil {o : Oper} {a : Act} {w : World} {K : Act → World → Prop} {Q : Exit → Act → World → Prop} (s x : Operand) (t : TypeId)
    (ho : o.op = .call { callee := .builtin .append, args := #[s, x], argTypes := #[t, t] }) (e : TypeId) (i : TypeInfo) (ht : Try.prog.underlying t = some (.slice e)) (hi : Try.prog.info? e = some i) (g n cap k : Nat) (hc : n ≤ cap)
    (hs : a.eval s = .slice (some ⟨g, 0, none⟩) n cap) (hx : a.eval x = .slice none 0 k) (h : K (a.put o.dst (.slice (some ⟨g, 0, none⟩) n cap)) w) : o.wp Try.prog a w K Q := by
  have hr := run_append_noneN (P := Try.prog) (ty := o.type) ht hi g n cap k hc w
  unfold Oper.wp execOp
  simp only [ho, resolve, invoke, builtin, Sem.run_bind, Sem.run_pure, Result.andThen_ok, List.map_toArray, List.map_cons, List.map_nil, hs, hx, hr]
  exact h
def bareN (k : Int) : Nd := ⟨k, 0, 0, ⟨#[]⟩, [], []⟩
theorem bareN_nd (k : Int) (w : World) : NdIn w AnyB (bareN k) none none := ⟨⟨Nat.zero_le _, Nat.zero_le _, Nat.zero_le _⟩, AltIn.nil, ToIn.nil⟩
theorem own_keep {w w' : World} {base : Nat} {e : TypeId} {size n c k : Nat} {A : Option Addr} {xs : List Value} (h : w.ownsRow base e size (.slice A n c) k xs) (hk : ∀ q, (Value.slice A n c).ownBlock = some q → w'.heap[q]? = w.heap[q]?) : w'.ownsRow base e size (.slice A n c) k xs := by
  obtain ⟨h1, h2⟩ := h
  refine ⟨h1, ?_⟩
  rcases h2 with h2 | ⟨g, cap, cur, h3, h4, h5, h6⟩
  · exact .inl h2
  · refine .inr ⟨g, cap, cur, h3, h4, ?_, h6⟩
    rw [hk g (by rw [h3]; rfl)]
    exact h5
set_option maxHeartbeats 16000000 in
theorem rmake_any (l : List Nd) (A : Option Addr) (m c : Nat) (cap k : Int) (w : World) (hm : m = l.length) (hm2 : m ≤ 1000) (X : Nat → Prop) (hX : ∀ g, X g → g < w.heap.size) (hN : NdsIn w X l A) (hfree : ∀ j, j < m → (ndAt l j).kind ≠ 0) (hu : (usedV l : Int) < cap) (hk2 : 2 ≤ k) (hn : nodeV (bareN k) = true) (hp : (bareN k).ports ≤ 100) :
    Calls Try.prog 23 #[.agg #[.slice A m c, .int .i64 cap], .agg #[.int .i64 k, .int .i64 0, .int .i64 0, .string ⟨#[]⟩, .slice none 0 0, .slice none 0 0]] w fun e w' => ∃ A9 m9 c9, e = .returned (.tuple #[.agg #[.slice A9 m9 c9, .int .i64 cap], .int .i64 m, .int .i64 0]) ∧ m9 = m + 1 ∧ NdsIn w' (fun g => X g ∨ w.heap.size ≤ g) (l ++ [freshV (bareN k)]) A9 ∧ Below w.heap.size w w' := by
  obtain ⟨W, hW⟩ : ∃ W, W = (((w.alloc (.cells #[.slice A m c, .int .i64 cap] 24)).alloc (.cells #[.int .i64 k, .int .i64 0, .int .i64 0, .string ⟨#[]⟩, .slice none 0 0, .slice none 0 0] 43)).alloc (.cells #[.slice none 0 0, .int .i64 0] 24)) := ⟨_, rfl⟩
  have hb : Below w.heap.size w W := by rw [hW]; exact (((Below.refl _ w).alloc (Nat.le_refl _) _).alloc (by simp) _).alloc (by simp; omega) _
  have hWs : W.heap.size = w.heap.size + 3 := by rw [hW]; simp
  have L0 : Lies W w.heap.size 24 #[.slice A m c, .int .i64 cap] := by rw [hW]; exact ((Lies.new _ _ _).old _).old _
  have L1 : Lies W (w.heap.size + 1) 43 #[.int .i64 k, .int .i64 0, .int .i64 0, .string ⟨#[]⟩, .slice none 0 0, .slice none 0 0] := by rw [hW]; exact Lies.old (by simpa using Lies.new (w.alloc (.cells #[.slice A m c, .int .i64 cap] 24)) 43 #[.int .i64 k, .int .i64 0, .int .i64 0, .string ⟨#[]⟩, .slice none 0 0, .slice none 0 0]) _
  have L2 : Lies W (w.heap.size + 2) 24 #[.slice none 0 0, .int .i64 0] := by rw [hW]; simpa using Lies.new ((w.alloc (.cells #[.slice A m c, .int .i64 cap] 24)).alloc (.cells #[.int .i64 k, .int .i64 0, .int .i64 0, .string ⟨#[]⟩, .slice none 0 0, .slice none 0 0] 43)) 24 #[.slice none 0 0, .int .i64 0]
  have hNW : NdsIn W X l A := hN.below hb (Nat.le_refl _)
  have HM := Lib.hid hm
  have HF := Lib.hid hfree
  have HND : Hid (Calls Try.prog 32 #[.agg #[.int .i64 k, .int .i64 0, .int .i64 0, .string ⟨#[]⟩, .slice none 0 0, .slice none 0 0]] W fun e w' => e = .returned (.bool true) ∧ Below W.heap.size W w') := Lib.hid (by
    have h := rnode_any (bareN k) none none 0 0 W (bareN_nd k W)
    rw [hn] at h
    exact h)
  have HPO : Hid (∀ V : World, Calls Try.prog 33 #[.agg #[.int .i64 k, .int .i64 0, .int .i64 0, .string ⟨#[]⟩, .slice none 0 0, .slice none 0 0]] V fun e w' => e = .returned (.int .i64 ((bareN k).ports : Nat)) ∧ Below V.heap.size V w') := Lib.hid fun V => rports_any (bareN k) none none 0 0 V (bareN_nd k V).1
  obtain ⟨p, hpp⟩ : ∃ p, p = (bareN k).ports := ⟨_, rfl⟩
  rw [← hpp] at HPO hp
  have HPP := Lib.hid hpp
  have e1 : decide (k < 2) = false := decide_eq_false (by omega)
  obtain ⟨us, hus⟩ : ∃ us, us = usedV l := ⟨_, rfl⟩
  rw [← hus] at hu
  have e2 : decide (cap ≤ (us : Int)) = false := decide_eq_false (by omega)
  have HUS : Hid (∀ V, Below W.heap.size W V → Calls Try.prog 34 #[.agg #[.slice A m c, .int .i64 cap]] V fun e w' => e = .returned (.int .i64 us) ∧ Below V.heap.size V w') := Lib.hid fun V hV => by
    rw [hus]
    exact rused_any l A m c cap V hm (by omega) (hNW.any.below hV (Nat.le_refl _))
  have HNW := Lib.hid hNW
  have HL0 := Lib.hid L0
  have HL1 := Lib.hid L1
  have HL2 := Lib.hid L2
  have HB := Lib.hid hb
  obtain ⟨n0, n1⟩ := two_cells L0
  obtain ⟨x0, x1, x2, x3, x4, x5⟩ := six_cells L1
  clear hN hm hfree hn hpp hus L0 L1 L2 hb hNW
  go_enter Try.func23, Try.ntmps23
  go_upto_region 1 with fail
  rw [← hW]
  clear hW
  go_wp2_with fail
  refine HND.out.mono ?_
  rintro e V1 ⟨rfl, hV1⟩
  clear n0 n1 x0 x1 x2 x3 x4 x5 HND
  go_upto_region 3 with fail
  have hn9 := two_cells (HL0.out.below hV1 HL0.out.lt)
  have n0 := Abv.cell hn9.1
  have n1 := Abv.cell hn9.2
  have HUA : ∀ V : Abv V1, Calls Try.prog 34 #[.agg #[.slice A m c, .int .i64 cap]] V.1 fun e w' => e = .returned (.int .i64 us) ∧ Below V.1.heap.size V.1 w' := fun V => HUS.out V.1 (hV1.trans (V.2.mono hV1.size))
  refine region_calm (by kernel_rfl) (by kernel_rfl) ?_
  repeat (go_big_quiet_step (exact calm_of (HUA _)))
  refine wpQuiet_nil ?_
  rintro _ ⟨V, rfl⟩
  clear n0 n1 HUA hn9 HUS
  obtain ⟨V2, hV2⟩ := V
  dsimp only
  have hW2 := hV1.trans (hV2.mono hV1.size)
  clear hV1 hV2
  have HC := Lib.hid (rcopy_any l A m c cap V2 HM.out (by omega) X (fun g h => by have h1 := hX g h; have h2 := hW2.size; omega) (HNW.out.below hW2 (Nat.le_refl _)))
  replace HL0 := Lib.hid (HL0.out.below hW2 HL0.out.lt)
  replace HL1 := Lib.hid (HL1.out.below hW2 HL1.out.lt)
  replace HL2 := Lib.hid (HL2.out.below hW2 HL2.out.lt)
  replace HB := Lib.hid (HB.out.trans (hW2.mono HB.out.size))
  obtain ⟨n0, n1⟩ := two_cells HL0.out
  have hs2 := hW2.size
  clear hW2 HNW
  go_wp2_with fail
  refine HC.out.mono ?_
  rintro e V3 ⟨Av, cv, xs, rfl, ho3, hr3, hb3⟩
  clear HC n0 n1
  go_upto_region 6 with fail
  obtain ⟨V4, hV4⟩ : ∃ V, V = V3.alloc (.cells #[.slice Av m cv, .int .i64 cap] 24) := ⟨_, rfl⟩
  obtain ⟨O, hO⟩ : ∃ O, O = V3.heap.size := ⟨_, rfl⟩
  have hbA : Below V3.heap.size V3 V4 := by rw [hV4]; exact (Below.refl _ V3).alloc (Nat.le_refl _) _
  have LO : Lies V4 O 24 #[.slice Av m cv, .int .i64 cap] := by rw [hV4, hO]; exact Lies.new _ _ _
  have hb4 := hb3.trans (hbA.mono hb3.size)
  have HO4 : Hid (V4.ownsRow (V2.heap.size + 3) 43 6 (.slice Av m cv) m xs) := Lib.hid (by rw [hV4]; exact ho3.alloc _)
  have HR4 : Hid (RowNd V4 X l xs) := Lib.hid (hr3.keep (keep_below hbA (Nat.le_refl _)))
  have hOb : V2.heap.size ≤ O := by have := hb3.size; omega
  replace HL1 := Lib.hid (HL1.out.below hb4 (by have := HL1.out.lt; omega))
  replace HL2 := Lib.hid (HL2.out.below hb4 (by have := HL2.out.lt; omega))
  have HB4 := Lib.hid (HB.out.trans (hb4.mono HB.out.size))
  have HLO := Lib.hid LO
  -- the row that is held lies off block O
  have HOO : Hid (∀ q, (Value.slice Av m cv).ownBlock = some q → q < O) := Lib.hid fun q e => by have := (ho3.lt q e).2; omega
  rw [← hV4, ← hO]
  clear hV4 hO hbA LO hb4 hb3 ho3 hr3 HL0 HB
  have HPQ := Lib.hid (HPO.out V4)
  obtain ⟨x0, x1, x2, x3, x4, x5⟩ := six_cells HL1.out
  go_wp2_with fail
  refine HPQ.out.mono ?_
  rintro e V5 ⟨rfl, hb5⟩
  clear HPQ x0 x1 x2 x3 x4 x5
  have hb5' := HB4.out.trans (hb5.mono HB4.out.size)
  have hO5 : O < V4.heap.size := HLO.out.lt
  have HO5 : Hid (V5.ownsRow (V2.heap.size + 3) 43 6 (.slice Av m cv) m xs) := Lib.hid (own_keep HO4.out (fun q e => hb5.block q (by have := HOO.out q e; omega)))
  have HR5 : Hid (RowNd V5 X l xs) := Lib.hid (HR4.out.keep (keep_below hb5 (Nat.le_refl _)))
  replace HL1 := Lib.hid (HL1.out.below hb5 HL1.out.lt)
  replace HL2 := Lib.hid (HL2.out.below hb5 HL2.out.lt)
  replace HLO := Lib.hid (HLO.out.below hb5 hO5)
  have hs5 := hb5.size
  have HB5 := Lib.hid hb5'
  clear hb5' hb5 HO4 HR4 HB4
  obtain ⟨M, hM⟩ : ∃ M, M = madeCells #[.int .i64 0, .int .i64 0] (p * 2) := ⟨_, rfl⟩
  have HMM := Lib.hid hM
  have hmk : ∀ U : World, (Instr.makeSlice 41 (.int .i64 p) (.int .i64 p)).run Try.prog U = .ok (.slice (some ⟨U.heap.size, 0, none⟩) p p) (U.alloc (.cells M 26)) := fun U => by
    obtain ⟨i0, hi0, hz0, hz1, hz2⟩ := info_partsN infoPo
    have h := run_make (P := Try.prog) U 41 26 i0 (.agg #[.int .i64 0, .int .i64 0]) Try.underlying41 hi0 hz0 .i64 .i64 (p : Int) (p : Int) (by omega) (by omega) (by rw [hz2]; omega) (by omega)
    rw [hz1, show (Value.agg #[.int .i64 0, .int .i64 0]).cells = #[.int .i64 0, .int .i64 0] from rfl] at h
    rw [hM]
    simpa using h
  have f5 := HL1.out.frozen 5
  obtain ⟨x0, x1, x2, x3, x4, x5⟩ := six_cells HL1.out
  have hx1 : w.heap.size + 1 < V5.heap.size := HL1.out.lt
  clear hM
  go_upto_region 7 with fail
  clear hmk x0 x1 x2 x3 x4 x5 f5
  obtain ⟨V6, hV6⟩ : ∃ V, V = (V5.setCell ⟨w.heap.size + 1, 5, none⟩ (.slice (some ⟨V5.heap.size, 0, none⟩) p p)).alloc (.cells M 26) := ⟨_, rfl⟩
  have hss : (V5.setCell ⟨w.heap.size + 1, 5, none⟩ (.slice (some ⟨V5.heap.size, 0, none⟩) p p)).heap.size = V5.heap.size := by simp [World.setCell]
  obtain ⟨gM, hgM⟩ : ∃ g, g = V5.heap.size := ⟨_, rfl⟩
  have hlow : ∀ q, q < V5.heap.size → q ≠ w.heap.size + 1 → V6.heap[q]? = V5.heap[q]? := fun q hq hn => by rw [hV6]; exact (Below.heap_alloc _ _ q (by rw [hss]; exact hq)).trans (Below.heap_setCell V5 ⟨w.heap.size + 1, 5, none⟩ _ q hn)
  have hV6s : V6.heap.size = V5.heap.size + 1 := by rw [hV6]; simp [World.setCell]
  have L6 : Lies V6 (w.heap.size + 1) 43 #[.int .i64 k, .int .i64 0, .int .i64 0, .string ⟨#[]⟩, .slice none 0 0, .slice (some ⟨gM, 0, none⟩) p p] := by
    rw [hV6, hgM]
    have h := (HL1.out.put 5 (.slice (some ⟨V5.heap.size, 0, none⟩) p p)).old (.cells M 26)
    simpa using h
  have LM : Lies V6 gM 26 M := by rw [hV6, hgM]; exact lies_at hss
  have HO6 : Hid (V6.ownsRow (V2.heap.size + 3) 43 6 (.slice Av m cv) m xs) := Lib.hid (own_keep HO5.out (fun q e => hlow q (by have := HOO.out q e; omega) (fun e9 => by have := (HO5.out.lt q e).1; omega)))
  have HR6 : Hid (RowNd V6 X l xs) := Lib.hid (HR5.out.keep (fun q j hq _ => by have hq' := hX q hq; exact ⟨World.cell?_of_block (hlow q (by omega) (by omega)), hq⟩))
  replace HL2 := Lib.hid (show Lies V6 (w.heap.size + 2) _ _ from (hlow _ (by omega) (by omega)).trans HL2.out)
  replace HLO := Lib.hid (show Lies V6 O _ _ from (hlow _ (by omega) (by omega)).trans HLO.out)
  have HB6 : Hid (Below w.heap.size w V6) := Lib.hid (by rw [hV6]; exact (HB5.out.setCell (p := ⟨w.heap.size + 1, 5, none⟩) (by show w.heap.size ≤ w.heap.size + 1; omega) _).alloc (by rw [hss]; exact HB5.out.size) _)
  rw [← hV6, ← hgM]
  have HL6 := Lib.hid L6
  have HLM := Lib.hid LM
  have HGM := Lib.hid hgM
  have hgM2 : O < gM := by omega
  have hgMs : gM < V6.heap.size := by omega
  clear hV6 hss L6 LM HL1 hlow HO5 HR5 HB5 hgM
  obtain ⟨V7, hV7⟩ : ∃ V, V = V6.alloc (.cells #[] 67) := ⟨_, rfl⟩
  have L7 : Lies V7 (w.heap.size + 1) 43 #[.int .i64 k, .int .i64 0, .int .i64 0, .string ⟨#[]⟩, .slice none 0 0, .slice (some ⟨gM, 0, none⟩) p p] := by rw [hV7]; exact HL6.out.old _
  have f4 := L7.frozen 4
  have x4 := (six_cells L7).2.2.2.2.1
  rw [hV7] at f4 x4
  have HV6S := Lib.hid hV6s
  have HV7 := Lib.hid hV7
  have HL7 := Lib.hid L7
  clear hV7 L7 hV6s
  go_upto_region 8 with (at_builtin; refine wpList_plain rfl fun _ hK => wp_append_nil (.tmp 30) (.tmp 32) 40 rfl 67 _ Try.underlying40 (info_partsN infoAr).choose_spec.1 V6.heap.size 0 0 0 (Nat.le_refl _) rfl rfl (hK _ _ ?_))
  obtain ⟨V8, hV8⟩ : ∃ V, V = (V6.alloc (.cells #[] 67)).setCell ⟨w.heap.size + 1, 4, none⟩ (.slice (some ⟨V6.heap.size, 0, none⟩) 0 0) := ⟨_, rfl⟩
  obtain ⟨g3, hg3⟩ : ∃ g, g = V6.heap.size := ⟨_, rfl⟩
  have hlow : ∀ q, q < V6.heap.size → q ≠ w.heap.size + 1 → V8.heap[q]? = V6.heap[q]? := fun q hq hn => by rw [hV8]; exact (Below.heap_setCell _ ⟨w.heap.size + 1, 4, none⟩ _ q hn).trans (Below.heap_alloc V6 _ q hq)
  have hsz6 := HV6S.out
  have L8 : Lies V8 (w.heap.size + 1) 43 #[.int .i64 k, .int .i64 0, .int .i64 0, .string ⟨#[]⟩, .slice (some ⟨g3, 0, none⟩) 0 0, .slice (some ⟨gM, 0, none⟩) p p] := by
    rw [hV8, hg3]
    have h := (HL6.out.old (.cells #[] 67)).put 4 (.slice (some ⟨V6.heap.size, 0, none⟩) 0 0)
    simpa using h
  have HO8 : Hid (V8.ownsRow (V2.heap.size + 3) 43 6 (.slice Av m cv) m xs) := Lib.hid (own_keep HO6.out (fun q e => hlow q (by have := HOO.out q e; omega) (fun e9 => by have := (HO6.out.lt q e).1; omega)))
  have HR8 : Hid (RowNd V8 X l xs) := Lib.hid (HR6.out.keep (fun q j hq _ => by have hq' := hX q hq; exact ⟨World.cell?_of_block (hlow q (by omega) (by omega)), hq⟩))
  replace HL2 := Lib.hid (show Lies V8 (w.heap.size + 2) _ _ from (hlow _ (by omega) (by omega)).trans HL2.out)
  replace HLO := Lib.hid (show Lies V8 O _ _ from (hlow _ (by omega) (by omega)).trans HLO.out)
  have HLM8 : Hid (Lies V8 gM 26 M) := Lib.hid ((hlow _ hgMs (by omega)).trans HLM.out)
  have HB8 : Hid (Below w.heap.size w V8) := Lib.hid (by rw [hV8]; exact (HB6.out.alloc HB6.out.size _).setCell (p := ⟨w.heap.size + 1, 4, none⟩) (by show w.heap.size ≤ w.heap.size + 1; omega) _)
  have hs8 : V8.heap.size = V6.heap.size + 1 := by rw [hV8]; simp [World.setCell]
  have hOlt : O < V8.heap.size := by omega
  rw [← hV8, ← hg3]
  have HL8 := Lib.hid L8
  have HS8 : Hid (V2.heap.size + 3 ≤ V8.heap.size ∧ gM < V8.heap.size ∧ g3 < V8.heap.size) := Lib.hid ⟨by have := HO6.out; rcases Nat.lt_or_ge V8.heap.size (V2.heap.size + 3) with h | h; omega; exact h, by omega, by omega⟩
  have HN8 : Hid (NdsIn V8 AnyB l Av) := Lib.hid (HR8.out.owned HO8.out (fun _ _ => trivial) (fun _ _ _ => trivial))
  clear hV8 hg3 hlow hsz6 L8 HL6 HO6 HR6 HB6 HLM x4 f4 HV7 HL7 HV6S hs8 hK
  obtain ⟨o0, o1⟩ := two_cells HLO.out
  go_wp2_with fail
  go_loopw [8] (fun y wr => ∃ i : Nat, i ≤ m ∧ y = .int .i64 i ∧ wr = V8) (fun y _ => m - (intOf y).toNat)
  case atStart => exact ⟨0, Nat.zero_le _, rfl, rfl⟩
  case round =>
    obtain ⟨i, hi, rfl, rfl⟩ := hrel
    by_cases hlt : i < m
    · have hil : i < l.length := by have := HM.out; omega
      obtain ⟨g, o, x, B, bb, C, cc, hx, rfl, _, ⟨y0, _, _, _, _, _⟩, _⟩ := NdsIn.get HN8.out i hil
      have hne := HF.out i hlt
      rw [← hx] at hne
      obtain ⟨kk, hkk⟩ : ∃ kk, kk = x.kind := ⟨_, rfl⟩
      rw [← hkk] at y0 hne
      have e3 : (kk == 0) = false := by simpa using hne
      clear hx hkk hne
      go_wp2_with fail
      go_roundw
      case rel => exact ⟨i + 1, by omega, by go_num, trivial⟩
      case measure => simp [intOf]; omega
    · have him : i = m := by omega
      subst him
      obtain ⟨x0, x1, x2, x3, x4, x5⟩ := six_cells HL8.out
      have hs9 := HS8.out
      have hT : Lies (wr.alloc (.cells #[.int .i64 k, .int .i64 0, .int .i64 0, .string ⟨#[]⟩, .slice (some ⟨g3, 0, none⟩) 0 0, .slice (some ⟨gM, 0, none⟩) p p] 43)) wr.heap.size 43 #[.int .i64 k, .int .i64 0, .int .i64 0, .string ⟨#[]⟩, .slice (some ⟨g3, 0, none⟩) 0 0, .slice (some ⟨gM, 0, none⟩) p p] := Lies.new _ _ _
      have HNW : Hid (∀ j u, ([.int .i64 k, .int .i64 0, .int .i64 0, .string ⟨#[]⟩, .slice (some ⟨g3, 0, none⟩) 0 0, .slice (some ⟨gM, 0, none⟩) p p] : List Value)[j]? = some u → (wr.alloc (.cells #[.int .i64 k, .int .i64 0, .int .i64 0, .string ⟨#[]⟩, .slice (some ⟨g3, 0, none⟩) 0 0, .slice (some ⟨gM, 0, none⟩) p p] 43)).cell? ((⟨wr.heap.size, 0, none⟩ : Addr).add j) = some u) := Lib.hid fun j u hu => by
        rw [nadd, Nat.zero_add, hT.cell]
        simpa using hu
      have HOT : Hid ((wr.alloc (.cells #[.int .i64 k, .int .i64 0, .int .i64 0, .string ⟨#[]⟩, .slice (some ⟨g3, 0, none⟩) 0 0, .slice (some ⟨gM, 0, none⟩) p p] 43)).ownsRow (V2.heap.size + 3) 43 6 (.slice Av i cv) i xs) := Lib.hid (HO8.out.alloc _)
      have HBT : Hid (Below wr.heap.size wr (wr.alloc (.cells #[.int .i64 k, .int .i64 0, .int .i64 0, .string ⟨#[]⟩, .slice (some ⟨g3, 0, none⟩) 0 0, .slice (some ⟨gM, 0, none⟩) p p] 43))) := Lib.hid ((Below.refl _ wr).alloc (Nat.le_refl _) _)
      have HBS : Hid (V2.heap.size + 3 ≤ (wr.alloc (.cells #[.int .i64 k, .int .i64 0, .int .i64 0, .string ⟨#[]⟩, .slice (some ⟨g3, 0, none⟩) 0 0, .slice (some ⟨gM, 0, none⟩) p p] 43)).heap.size) := Lib.hid (by simp; omega)
      clear hT
      go_upto_region 15 with (at_builtin; obtain ⟨i0, hi0, hz0, hz1, hz2⟩ := info_partsN infoNd; refine wpList_append_own _ rfl (.tmp 57) (.tmp 59) 22 rfl (V2.heap.size + 3) 43 i0 (.agg #[.int .i64 0, .int .i64 0, .int .i64 0, .string ⟨#[]⟩, .slice none 0 0, .slice none 0 0]) 6 88 Try.underlying22 hi0 hz0 hz1 hz2 rfl (by decide) (.slice Av i cv) i xs rfl HOT.out ⟨wr.heap.size, 0, none⟩ 1 1 [.int .i64 k, .int .i64 0, .int .i64 0, .string ⟨#[]⟩, .slice (some ⟨g3, 0, none⟩) 0 0, .slice (some ⟨gM, 0, none⟩) p p] rfl rfl HNW.out (by simp [Value.oneCell']) (by unfold maxLen; omega) (by omega) HBS.out (fun v9 w9 hown9 hg9 hv9 => ?_); obtain ⟨g9, c9, rfl⟩ := own_sliceN hown9 (fun e => by have := (hv9.1 e).2; omega); clear hi0 hz0 hz1 hz2 hv9; have hlow9 : ∀ q, q < wr.heap.size → (∀ e, (Value.slice Av i cv).ownBlock = some e → e ≠ q) → w9.heap[q]? = wr.heap[q]? := (fun q hq hne => (hg9.block q (by simp; omega) (fun e => hne _ e.symm rfl)).trans (HBT.out.block q hq)); have hLO9 : Lies w9 O 24 #[.slice Av i cv, .int .i64 cap] := (hlow9 O hOlt (fun e he => by have := HOO.out e he; omega)).trans HLO.out; have o9 := (two_cells hLO9).1; have f9 := hLO9.frozen 0)
      have hB9 : Below w.heap.size w w9 := by
        have h1 := HBT.out.mono HB8.out.size
        exact (HB8.out.trans h1).grown hg9 (HB8.out.trans h1).size (fun q e => by have := (HOT.out.lt q e).1; have := HB8.out.size; omega)
      have hL2 : Lies w9 (w.heap.size + 2) 24 #[.slice none 0 0, .int .i64 0] := (hlow9 _ (by omega) (fun e he => by have := (HO8.out.lt e he).1; omega)).trans HL2.out
      have hM9 : Lies w9 gM 26 M := (hlow9 _ (by omega) (fun e he => by have := HOO.out e he; omega)).trans HLM8.out
      have hR9 : RowNd w9 X l xs := HR8.out.keep (fun q j hq hql => by have hq' := hX q hq; exact ⟨World.cell?_of_block (hlow9 q hql (fun e he => by have := (HO8.out.lt e he).1; omega)), hq⟩)
      have HL2 := Lib.hid hL2
      have HM9 := Lib.hid hM9
      have HR9 := Lib.hid hR9
      have HB9 := Lib.hid hB9
      have HW9 := Lib.hid hown9
      have HLO9 := Lib.hid hLO9
      clear hB9 hL2 hM9 hR9 hown9 hLO9 hg9 hlow9 o9 f9 o0 o1 x0 x1 x2 x3 x4 x5 HNW HOT HBT HBS
      obtain ⟨V10, hV10⟩ : ∃ V, V = w9.setCell ⟨O, 0, none⟩ (.slice (some ⟨g9, 0, none⟩) (i + 1) c9) := ⟨_, rfl⟩
      have hO10 : Lies V10 O 24 #[.slice (some ⟨g9, 0, none⟩) (i + 1) c9, .int .i64 cap] := by rw [hV10]; exact HLO9.out.put0 _
      have hL10 : Lies V10 (w.heap.size + 2) 24 #[.slice none 0 0, .int .i64 0] := by rw [hV10]; exact HL2.out.far (p := ⟨O, 0, none⟩) (by show w.heap.size + 2 ≠ O; omega) _
      rw [← hV10]
      have HV10 := Lib.hid hV10
      have HL10 := Lib.hid hL10
      obtain ⟨o0, o1⟩ := two_cells hO10
      obtain ⟨r0, r1⟩ := two_cells hL10
      have f0 := hL10.frozen 0
      have f1 := hL10.frozen 1
      clear hV10 hO10 hL10
      go_region
      obtain ⟨V11, hV11⟩ : ∃ V, V = ((V10.setCell ⟨w.heap.size + 2, 0, none⟩ (.slice (some ⟨g9, 0, none⟩) (i + 1) c9)).setCell ⟨w.heap.size + 2, 1, none⟩ (.int .i64 cap)).drew := ⟨_, rfl⟩
      have hR11 : Lies V11 (w.heap.size + 2) 24 #[.slice (some ⟨g9, 0, none⟩) (i + 1) c9, .int .i64 cap] := by rw [hV11]; exact (lies_put2 HL10.out _ _).drew
      rw [← hV11]
      have HV11 := Lib.hid hV11
      clear hV11 o0 o1 r0 r1 f0 f1
      go_wp2_with fail
      refine bodyPost_ret (res_net3 (p := 4) Try.results23 rfl hR11) rfl ⟨some ⟨g9, 0, none⟩, i + 1, c9, ?_, rfl, ?_, ?_⟩
      · first | rfl | (simp; done) | (simp; omega)
      · have hb10 : ∀ q, q ≠ O → q ≠ w.heap.size + 2 → V11.heap[q]? = w9.heap[q]? := fun q h1 h2 => by
          rw [HV11.out, HV10.out]
          exact ((Below.heap_setCell _ ⟨w.heap.size + 2, 1, none⟩ _ q h2).trans (Below.heap_setCell _ ⟨w.heap.size + 2, 0, none⟩ _ q h2)).trans (Below.heap_setCell _ ⟨O, 0, none⟩ _ q h1)
        have hg9b : V2.heap.size + 3 ≤ g9 := (HW9.out.lt g9 rfl).1
        have hsn : RowNd w9 (fun g => (X g ∨ g = gM)) (l ++ [freshV (bareN k)]) (xs ++ [.int .i64 k, .int .i64 0, .int .i64 0, .string ⟨#[]⟩, .slice (some ⟨g3, 0, none⟩) 0 0, .slice (some ⟨gM, 0, none⟩) p p]) := by
          have h := (HR9.out.keep (w' := w9) (Y := fun g => (X g ∨ g = gM)) (fun q j hq _ => ⟨rfl, .inl hq⟩)).snoc (x := freshV (bareN k)) (B := some ⟨g3, 0, none⟩) (C := some ⟨gM, 0, none⟩) (b := 0) (c := p) ⟨⟨Nat.zero_le _, Nat.zero_le _, by simp [freshV]; rw [← HPP.out]; omega⟩, AltIn.nil, fun j hj => ?_⟩
          · have hcs : cellsNd (freshV (bareN k)) (some ⟨g3, 0, none⟩) 0 (some ⟨gM, 0, none⟩) p = [.int .i64 k, .int .i64 0, .int .i64 0, .string ⟨#[]⟩, .slice (some ⟨g3, 0, none⟩) 0 0, .slice (some ⟨gM, 0, none⟩) p p] := by
              simp only [cellsNd, freshV, bareN, List.length_replicate, List.length_nil]
              rw [show Nd.ports ⟨k, 0, 0, ⟨#[]⟩, [], []⟩ = p from HPP.out.symm, capN_of (Nat.le_refl p)]
              rfl
            rw [hcs] at h
            exact h
          · have hjp : j < p := by simp [freshV] at hj; rw [← HPP.out] at hj; exact hj
            have hz : (freshV (bareN k)).to[j]'hj = (0, 0) := by simp [freshV]
            rw [hz]
            refine ⟨gM, 0, ⟨rfl, .inr rfl⟩, ?_, ?_⟩
            · rw [HM9.out.cell, HMM.out]; exact zero_cells _ _ (by omega)
            · rw [HM9.out.cell, HMM.out]; exact zero_cells _ _ (by omega)
        have hN9 : NdsIn w9 (fun g => (X g ∨ w.heap.size ≤ g) ∧ g ≠ O ∧ g ≠ w.heap.size + 2) (l ++ [freshV (bareN k)]) (some ⟨g9, 0, none⟩) := by
          obtain ⟨cur, _, hL9, _, htk, _, _⟩ := own_curC HW9.out
          have hgO : g9 ≠ O := fun e => by
            subst e
            have h := hL9.symm.trans HLO9.out
            injection h with h
            injection h with _ h _
            exact absurd h (by decide)
          refine hsn.parts ⟨.inr (by omega), hgO, by omega⟩ (fun q hq _ => ?_) (fun j u hu => ?_)
          · rcases hq with hq | hq
            · have hq' := hX q hq; exact ⟨.inl hq, by omega, by omega⟩
            · subst hq; exact ⟨.inr (by omega), by omega, by omega⟩
          · rw [Nat.zero_add, hL9.cell]
            rw [← htk] at hu
            have hj : j < (i + 1) * 6 := by
              rcases Nat.lt_or_ge j ((i + 1) * 6) with h | h
              · exact h
              · rw [List.getElem?_eq_none (by simp; omega)] at hu; cases hu
            rw [List.getElem?_take_of_lt hj] at hu
            simpa using hu
        exact (hN9.keep (fun q j hq _ => ⟨World.cell?_of_block (hb10 q hq.2.1 hq.2.2), hq.1⟩))
      · rw [HV11.out, HV10.out]
        exact (((HB9.out.setCell (p := ⟨O, 0, none⟩) (by show w.heap.size ≤ O; omega) _).setCell (p := ⟨w.heap.size + 2, 0, none⟩) (by show w.heap.size ≤ w.heap.size + 2; omega) _).setCell (p := ⟨w.heap.size + 2, 1, none⟩) (by show w.heap.size ≤ w.heap.size + 2; omega) _).drew
end Lx
end Go.Proofs.Ytceblpjlklogpaa
