/-
  Texts that lie one behind the other: NlRo NlRw NlPG NlPH NlPK.
-/
import Derived.Test.YtceblpjlklogpaaDoorC1
import Derived.Test.YtceblpjlklogpaaDoorRows
import Derived.Test.YtceblpjlklogpaaDoorTie
import Derived.Test.YtceblpjlklogpaaDoorCards
import Derived.Test.YtceblpjlklogpaaDoorC4
import Derived.ProofKit
import Derived.OpenShut
import Derived.ChangeArms
import Derived.Carry
import Derived.WideKeyArgs
import Derived.LaidMore
import Derived.LaidSub
import Derived.Lib.LaidTab
import Derived.Stop.Joined
import Derived.SevenTiedAt
namespace Go.Proofs.YtceblpjlklogpaaDoor
open Go.ChangeShapes Go.WideShapes Go.ChangeAt Go.RowKit
open Go.ChangeMaps (open_string shut_string)
namespace Lx
set_option maxRecDepth 100000
theorem own_ : ownKnob Tryd.prog.godebug = none := by kernel_rfl
section
variable {H : Type} {enc : TypeId × Value → H}
theorem cN6 : Tryd.prog.cellsOf 28 = 6 := by kernel_rfl
theorem cA2 : Tryd.prog.cellsOf 50 = 2 := by kernel_rfl
theorem cP2 : Tryd.prog.cellsOf 46 = 2 := by kernel_rfl
theorem bA24 : Tryd.prog.bytesOf 50 = 24 := by kernel_rfl
theorem bP16 : Tryd.prog.bytesOf 46 = 16 := by kernel_rfl
theorem cc3 : Tryd.prog.cellsOf 3 = 1 := by kernel_rfl
theorem cc9 : Tryd.prog.cellsOf 9 = 1 := by kernel_rfl
theorem ccA : Tryd.prog.cellsOf 25 = 1 := by kernel_rfl
theorem ccP : Tryd.prog.cellsOf 26 = 1 := by kernel_rfl
theorem cells_getN {w : World} {base : Nat} {a : Addr} {n : Nat} {cs : List Value} (h : w.cells? base a n = some cs) : ∀ j, j < n → w.cell? (a.add j) = cs[j]? := (World.cells?_some h).2.2
theorem spot_noneN {w : World} {a : Addr} {v : Value} (h : w.cell? a = some v) : a.spot = none := by
  unfold World.cell? at h
  split at h
  · split at h
    · cases h
    · rename_i hs; simpa using hs
  · cases h
theorem weights_memN {P : Program} {e : TypeId} : ∀ (L : List (DataW H)) (d : DataW H), d ∈ L → ∀ q ∈ DataW.weights P e d, q ∈ DataW.weightsAll P e L
  | [], d, h, _, _ => by cases h
  | a :: r, d, h, q, hq => by
    rw [DataW.weightsAll, List.mem_append]
    rcases List.mem_cons.1 h with rfl | h
    · exact .inl hq
    · exact .inr (weights_memN r d h q hq)
theorem row_ofN {α : Type} {Q : Nat → α → Prop} : ∀ (n : Nat), (∀ i, i < n → ∃ t, Q i t) → ∃ l : List α, l.length = n ∧ ∀ (i : Nat) (hi : i < l.length), Q i (l[i]'hi)
  | 0, _ => ⟨[], rfl, fun i hi => by simp at hi⟩
  | n + 1, h => by
    obtain ⟨l, hl, hq⟩ := row_ofN n fun i hi => h i (by omega)
    obtain ⟨t, ht⟩ := h n (by omega)
    refine ⟨l ++ [t], by simp [hl], fun i hi => ?_⟩
    rcases Nat.lt_or_ge i l.length with hlt | hge
    · rw [List.getElem_append_left hlt]; exact hq i hlt
    · have e : i = n := by simp at hi; omega
      subst e
      rw [List.getElem_append_right (by omega)]
      simpa [hl] using ht
/-- An alternative's reading. -/
theorem open_arity {W : World} {base : Nat} {sp : Nat → Bool} {hd : Bool} {fuel : Nat} {cs : List Value} {x : DataW H × List MemPlace} (h : DataW.trod enc Tryd.prog W base sp hd fuel 50 cs = some x) :
    ∃ (s : ByteArray) (n : Int), cs = [.string s, .int .i64 n] ∧ x.1 = .agg [.lit (.string s.data.toList), .lit (.int .i64 n)] := by
  obtain ⟨xs, m, e, hx, hl, hlen, hf⟩ := DataW.trod_struct Tryd.underlying50 h
  rw [cA2] at hl
  match cs, hl with
  | [c0, c1], _ =>
  match xs, hlen with
  | [x0, x1], _ =>
  have h0 := hf 0 { name := "Name", type := 9, offset := 0, embedded := false, tag := "", pkgPath := "", byteOffset := 0 } rfl
  have h1 := hf 1 { name := "N", type := 3, offset := 1, embedded := false, tag := "", pkgPath := "", byteOffset := 16 } rfl
  dsimp only at h0 h1
  rw [cc9] at h0
  rw [cc3] at h1
  dsimp at h0 h1
  obtain ⟨s, e0, y0, _⟩ := DataW.trod_string Tryd.underlying9 h0
  obtain ⟨n, e1, y1, _⟩ := DataW.trod_int Tryd.underlying3 h1
  obtain rfl := (List.cons.inj e0).1
  obtain rfl := (List.cons.inj e1).1
  subst y0 y1
  exact ⟨s, n, rfl, by rw [hx]; simp⟩
theorem open_port {W : World} {base : Nat} {sp : Nat → Bool} {hd : Bool} {fuel : Nat} {cs : List Value} {x : DataW H × List MemPlace} (h : DataW.trod enc Tryd.prog W base sp hd fuel 46 cs = some x) :
    ∃ (a b : Int), cs = [.int .i64 a, .int .i64 b] := by
  obtain ⟨xs, m, e, hx, hl, hlen, hf⟩ := DataW.trod_struct Tryd.underlying46 h
  rw [cP2] at hl
  match cs, hl with
  | [c0, c1], _ =>
  match xs, hlen with
  | [x0, x1], _ =>
  have h0 := hf 0 { name := "Node", type := 3, offset := 0, embedded := false, tag := "", pkgPath := "", byteOffset := 0 } rfl
  have h1 := hf 1 { name := "Slot", type := 3, offset := 1, embedded := false, tag := "", pkgPath := "", byteOffset := 8 } rfl
  dsimp only at h0 h1
  rw [cc3] at h0 h1
  dsimp at h0 h1
  obtain ⟨s, e0, y0, _⟩ := DataW.trod_int Tryd.underlying3 h0
  obtain ⟨n, e1, y1, _⟩ := DataW.trod_int Tryd.underlying3 h1
  obtain rfl := (List.cons.inj e0).1
  obtain rfl := (List.cons.inj e1).1
  exact ⟨s, n, rfl⟩
theorem open_alts {W : World} {base : Nat} {sp : Nat → Bool} {hd : Bool} {fuel : Nat} {v : Value} {y : DataW H × List MemPlace} (hv : DataW.trod enc Tryd.prog W base sp hd fuel 25 [v] = some y)
    (hw : ∀ q ∈ DataW.weights Tryd.prog 25 y.1, q ≤ reachBytes) : ∃ (l : List (ByteArray × Int)) (A : Option Addr) (c : Nat), v = .slice A l.length (capN l.length c) ∧ AltIn W AnyB l A ∧ l.length ≤ 140737488351232 := by
  rcases DataW.trod_slice Tryd.underlying25 hv with ⟨e1, rfl⟩ | ⟨p, len, cap, elems, rest, m', em, e1, rfl, hb, hl, hm, hlen, hel, _, _⟩
  · obtain rfl := (List.cons.inj e1).1
    exact ⟨[], none, 0, rfl, AltIn.nil, by simp⟩
  · obtain rfl := (List.cons.inj e1).1
    have hwe : ∀ (i : Nat) (y' : DataW H × List MemPlace), elems[i]? = some y' → ∀ q ∈ DataW.weights Tryd.prog 50 y'.1, q ≤ reachBytes := fun i y' hy q hq => hw q (by
      rw [DataW.weights, Tryd.underlying25]
      have := weights_memN (elems.map (·.1)) y'.1 (List.mem_map_of_mem (List.mem_of_getElem? hy)) q hq
      simp [this])
    have hlen' : len ≤ 140737488351232 := by
      have := hw ((elems.length + rest.length) * 24) (by
        rw [DataW.weights, Tryd.underlying25]
        simp [bA24])
      have : (elems.length + rest.length) * 24 ≤ 140737488351232 := this
      omega
    obtain ⟨l, hll, hq⟩ := row_ofN (Q := fun i (t : ByteArray × Int) => W.cells? base (p.add (i * 2)) 2 = some [.string t.1, .int .i64 t.2] ∧ t.1.size ≤ 140737488351232) len fun i hi => by
      have h1 := hel i hi
      rw [cA2] at h1
      obtain ⟨y', hy'⟩ : ∃ y', elems[i]? = some y' := ⟨_, List.getElem?_eq_getElem (by omega)⟩
      rw [hy', Option.bind_eq_some_iff] at h1
      obtain ⟨cs', hc', ht'⟩ := h1
      obtain ⟨s, n, rfl, hx'⟩ := open_arity ht'
      refine ⟨(s, n), hc', ?_⟩
      have := hwe i y' hy' s.data.toList.length (by
        rw [hx', DataW.weights, Tryd.underlying50]
        simp [DataW.weightsEach, DataW.weights])
      simpa [reachBytes] using this
    subst hll
    refine ⟨l, some p, cap, by rw [capN_of hl], fun i hi => ?_, hlen'⟩
    have hps : p.spot = none := by
      obtain ⟨hc, _⟩ := hq 0 (by omega)
      have := cells_getN hc 0 (by omega)
      have := spot_noneN (this.trans (rfl : ([_, _] : List Value)[0]? = some _))
      simpa [Addr.add] using this
    obtain ⟨pb, po, ps⟩ := p
    dsimp only at hps
    subst hps
    obtain ⟨hc, hsz⟩ := hq i hi
    have hcell : ∀ j, j < 2 → W.cell? ⟨pb, po + i * 2 + j, none⟩ = ([.string (l[i]'hi).1, .int .i64 (l[i]'hi).2] : List Value)[j]? := fun j hj => by
      have ea : ((⟨pb, po, none⟩ : Addr).add (i * 2)).add j = ⟨pb, po + i * 2 + j, none⟩ := by rw [nadd, nadd]
      rw [← cells_getN hc j hj, ea]
    exact ⟨pb, po, ⟨rfl, trivial⟩, hcell 0 (by omega), hcell 1 (by omega), hsz⟩
theorem open_to {W : World} {base : Nat} {sp : Nat → Bool} {hd : Bool} {fuel : Nat} {v : Value} {y : DataW H × List MemPlace} (hv : DataW.trod enc Tryd.prog W base sp hd fuel 26 [v] = some y)
    (hw : ∀ q ∈ DataW.weights Tryd.prog 26 y.1, q ≤ reachBytes) : ∃ (l : List (Int × Int)) (A : Option Addr) (c : Nat), v = .slice A l.length (capN l.length c) ∧ ToIn W AnyB l A ∧ l.length ≤ 140737488351232 := by
  rcases DataW.trod_slice Tryd.underlying26 hv with ⟨e1, rfl⟩ | ⟨p, len, cap, elems, rest, m', em, e1, rfl, hb, hl, hm, hlen, hel, _, _⟩
  · obtain rfl := (List.cons.inj e1).1
    exact ⟨[], none, 0, rfl, ToIn.nil, by simp⟩
  · obtain rfl := (List.cons.inj e1).1
    have hlen' : len ≤ 140737488351232 := by
      have := hw ((elems.length + rest.length) * 16) (by
        rw [DataW.weights, Tryd.underlying26]
        simp [bP16])
      have : (elems.length + rest.length) * 16 ≤ 140737488351232 := this
      omega
    obtain ⟨l, hll, hq⟩ := row_ofN (Q := fun i (t : Int × Int) => W.cells? base (p.add (i * 2)) 2 = some [.int .i64 t.1, .int .i64 t.2]) len fun i hi => by
      have h1 := hel i hi
      rw [cP2] at h1
      obtain ⟨y', hy'⟩ : ∃ y', elems[i]? = some y' := ⟨_, List.getElem?_eq_getElem (by omega)⟩
      rw [hy', Option.bind_eq_some_iff] at h1
      obtain ⟨cs', hc', ht'⟩ := h1
      obtain ⟨a, b, rfl⟩ := open_port ht'
      exact ⟨(a, b), hc'⟩
    subst hll
    refine ⟨l, some p, cap, by rw [capN_of hl], fun i hi => ?_, hlen'⟩
    have hps : p.spot = none := by
      have hc := hq 0 (by omega)
      have := cells_getN hc 0 (by omega)
      have := spot_noneN (this.trans (rfl : ([_, _] : List Value)[0]? = some _))
      simpa [Addr.add] using this
    obtain ⟨pb, po, ps⟩ := p
    dsimp only at hps
    subst hps
    have hc := hq i hi
    have hcell : ∀ j, j < 2 → W.cell? ⟨pb, po + i * 2 + j, none⟩ = ([.int .i64 (l[i]'hi).1, .int .i64 (l[i]'hi).2] : List Value)[j]? := fun j hj => by
      have ea : ((⟨pb, po, none⟩ : Addr).add (i * 2)).add j = ⟨pb, po + i * 2 + j, none⟩ := by rw [nadd, nadd]
      rw [← cells_getN hc j hj, ea]
    exact ⟨pb, po, ⟨rfl, trivial⟩, hcell 0 (by omega), hcell 1 (by omega)⟩
/-- A node's reading. -/
theorem open_node {W : World} {base : Nat} {sp : Nat → Bool} {hd : Bool} {fuel : Nat} {cs : List Value} {x : DataW H × List MemPlace} (h : DataW.trod enc Tryd.prog W base sp hd fuel 28 cs = some x)
    (hw : ∀ k ∈ DataW.weights Tryd.prog 28 x.1, k ≤ reachBytes) : ∃ (y : Nd) (B : Option Addr) (b : Nat) (C : Option Addr) (c : Nat), cs = cellsNd y B b C c ∧ NdIn W AnyB y B C := by
  obtain ⟨xs, m, e, hx, hl, hlen, hf⟩ := DataW.trod_struct Tryd.underlying28 h
  rw [cN6] at hl
  match cs, hl with
  | [c0, c1, c2, c3, c4, c5], _ =>
  match xs, hlen with
  | [x0, x1, x2, x3, x4, x5], _ =>
  have h0 := hf 0 { name := "Kind", type := 3, offset := 0, embedded := false, tag := "", pkgPath := "", byteOffset := 0 } rfl
  have h1 := hf 1 { name := "Level", type := 3, offset := 1, embedded := false, tag := "", pkgPath := "", byteOffset := 8 } rfl
  have h2 := hf 2 { name := "N", type := 3, offset := 2, embedded := false, tag := "", pkgPath := "", byteOffset := 16 } rfl
  have h3 := hf 3 { name := "Name", type := 9, offset := 3, embedded := false, tag := "", pkgPath := "", byteOffset := 24 } rfl
  have h4 := hf 4 { name := "Alts", type := 25, offset := 4, embedded := false, tag := "", pkgPath := "", byteOffset := 40 } rfl
  have h5 := hf 5 { name := "To", type := 26, offset := 5, embedded := false, tag := "", pkgPath := "", byteOffset := 64 } rfl
  dsimp only at h0 h1 h2 h3 h4 h5
  rw [cc3] at h0 h1 h2
  rw [cc9] at h3
  rw [ccA] at h4
  rw [ccP] at h5
  dsimp at h0 h1 h2 h3 h4 h5
  obtain ⟨k, e0, y0, _⟩ := DataW.trod_int Tryd.underlying3 h0
  obtain ⟨lv, e1, y1, _⟩ := DataW.trod_int Tryd.underlying3 h1
  obtain ⟨n, e2, y2, _⟩ := DataW.trod_int Tryd.underlying3 h2
  obtain ⟨s, e3, y3, _⟩ := DataW.trod_string Tryd.underlying9 h3
  obtain rfl := (List.cons.inj e0).1
  obtain rfl := (List.cons.inj e1).1
  obtain rfl := (List.cons.inj e2).1
  obtain rfl := (List.cons.inj e3).1
  subst y0 y1 y2 y3
  have hx1 : x.1 = .agg [.lit (.int .i64 k), .lit (.int .i64 lv), .lit (.int .i64 n), .lit (.string s.data.toList), x4.1, x5.1] := by rw [hx]; simp
  obtain ⟨al, B, b, rfl, hA, hAl⟩ := open_alts h4 (fun q hq => hw q (by
    rw [hx1, DataW.weights, Tryd.underlying28]
    simp [DataW.weightsEach, DataW.weights, hq]))
  obtain ⟨tp, C, c, rfl, hT, hTl⟩ := open_to h5 (fun q hq => hw q (by
    rw [hx1, DataW.weights, Tryd.underlying28]
    simp [DataW.weightsEach, DataW.weights, hq]))
  have hs : s.size ≤ 140737488351232 := by
    have := hw s.data.toList.length (by
      rw [hx1, DataW.weights, Tryd.underlying28]
      simp [DataW.weightsEach, DataW.weights])
    simpa [reachBytes] using this
  exact ⟨⟨k, lv, n, s, al, tp⟩, B, b, C, c, rfl, ⟨hs, hAl, hTl⟩, hA, hT⟩
/-- A node among the arguments. -/
theorem node_arg {W : World} {base b0 : Nat} {sp : Nat → Bool} {hd : Bool} {v : Value} {d : DataW H} {ps : List MemPlace} (hval : Value.okWide Tryd.prog W .any b0 28 v)
    (h : DataW.Trod enc Tryd.prog W base sp hd 28 v d ps) (hw : ∀ k ∈ DataW.weights Tryd.prog 28 d, k ≤ reachBytes) : ∃ y B b C c, v = ndv y B b C c ∧ NdIn W AnyB y B C := by
  obtain ⟨cs, rfl, _⟩ := okWide_struct Tryd.underlying28 hval
  obtain ⟨fuel, hf⟩ := h
  obtain ⟨y, B, b, C, c, hcs, hI⟩ := open_node hf hw
  refine ⟨y, B, b, C, c, ?_, hI⟩
  have : cs = #[.int .i64 y.kind, .int .i64 y.level, .int .i64 y.n, .string y.name, .slice B y.alts.length (capN y.alts.length b), .slice C y.to.length (capN y.to.length c)] := Array.ext' hcs
  rw [this]
  rfl
/-- It reads behind the call as it read before. -/
theorem node_again {W W' : World} {v : Value} {d : DataW H} {ps : List MemPlace} (h : DataW.Trod enc Tryd.prog W 0 (fun _ => true) true 28 v d ps) (hb : Below W.heap.size W W') (hlt : ∀ x ∈ ps, x.block < W.heap.size)
    {sp : Nat → Bool} (hs : ∀ x ∈ ps, sp x.block = true) : DataW.Trod enc Tryd.prog W' 0 sp true 28 v d ps :=
  WideElems.Trod_stays (by kernel_rfl) (by kernel_rfl) (of_decide_eq_true (by kernel_rfl)) h (fun x hx => hb.same (hlt x hx)) hs
/-- The end of a row without variables whose call left all that was there as it was. -/
theorem postN_left {P : Program} {f : Func} {s : ChangeSpec} {apart fresh handsOn again : Bool} {W W' : World} {args : Array Value} {v : Value} {ds : List (DataW H)} {before : List MemPlace}
    (hW : DataW.Whole enc P f.params.toList s.vars apart W args.toList ds [] before)
    (hres : ∀ (b : Nat) (sp : Nat → Bool) (hd : Bool), DataW.TrodAll enc P W' b sp hd f.resultTypes.toList (v.resultList f.resultTypes.size) (s.fn H (ds ++ [])).results [])
    (hargs : ∀ sp : Nat → Bool, (∀ p ∈ before, sp p.block = true) → DataW.TrodAll enc P W' 0 sp true f.params.toList args.toList (s.fn H (ds ++ [])).args before)
    (hvars : ∀ sp : Nat → Bool, DataW.TrodVars enc P W' sp s.vars (s.fn H (ds ++ [])).vars [])
    (hb : Below W.heap.size W W')
    (hok : ∀ (j : Nat) (t : TypeId) (r : Value), f.resultTypes[j]? = some t → (v.resultList f.resultTypes.size)[j]? = some r → Value.okWide P W' .any 0 t r) :
    s.post enc P f apart fresh handsOn again W args v W' := by
  have hlt : ∀ p ∈ before, p.block < W.heap.size := fun p hp => hW.lt p hp
  refine ⟨ds, [], before, [], before, [], hW, hres _ _ _, hargs _ (fun p hp => by simpa using hlt p hp), hvars _, World.keptBut_mono (fun p hp => ⟨hp, .inr (.inl hp)⟩) (hb.frame (· ∈ before)), fun _ => ?_⟩
  obtain ⟨_, _, _, _, _, hz, hn⟩ := hW
  refine ⟨hok, _, _, ([] ++ before) ++ [], ⟨[] ++ before, [], trodAll_append (hargs _ (fun _ _ => rfl)) (hres _ _ _), hvars _, rfl, ?_, ?_⟩, ?_⟩
  · intro b off hp
    have hin : MemPlace.cell b off ∈ before := by simpa using hp
    rw [hb.frozen (hlt _ hin)]
    exact hz b off hin
  · intro ha
    simpa using hn ha
  · intro p hp _
    simpa using hp
end
section
variable {H : Type} {enc : TypeId × Value → H}
theorem cc3' : Tryd.prog.cellsOf 3 = 1 := by kernel_rfl
theorem ccN : Tryd.prog.cellsOf 22 = 1 := by kernel_rfl
theorem cNet : Tryd.prog.cellsOf 24 = 2 := by kernel_rfl
theorem bN88 : Tryd.prog.bytesOf 28 = 88 := by kernel_rfl
theorem open_nodes {W : World} {base : Nat} {sp : Nat → Bool} {hd : Bool} {fuel : Nat} {v : Value} {y : DataW H × List MemPlace} (hv : DataW.trod enc Tryd.prog W base sp hd fuel 22 [v] = some y)
    (hw : ∀ q ∈ DataW.weights Tryd.prog 22 y.1, q ≤ reachBytes) : ∃ (l : List Nd) (A : Option Addr) (c : Nat), v = .slice A l.length (capN l.length c) ∧ NdsIn W AnyB l A ∧ l.length ≤ 140737488351232 := by
  rcases DataW.trod_slice Tryd.underlying22 hv with ⟨e1, rfl⟩ | ⟨p, len, cap, elems, rest, m', em, e1, rfl, hb, hl, hm, hlen, hel, _, _⟩
  · obtain rfl := (List.cons.inj e1).1
    exact ⟨[], none, 0, rfl, NdsIn.nil, by simp⟩
  · obtain rfl := (List.cons.inj e1).1
    have hwe : ∀ (i : Nat) (y' : DataW H × List MemPlace), elems[i]? = some y' → ∀ q ∈ DataW.weights Tryd.prog 28 y'.1, q ≤ reachBytes := fun i y' hy q hq => hw q (by
      rw [DataW.weights, Tryd.underlying22]
      have := weights_memN (elems.map (·.1)) y'.1 (List.mem_map_of_mem (List.mem_of_getElem? hy)) q hq
      simp [this])
    have hlen' : len ≤ 140737488351232 := by
      have := hw ((elems.length + rest.length) * 88) (by
        rw [DataW.weights, Tryd.underlying22]
        simp [bN88])
      have : (elems.length + rest.length) * 88 ≤ 140737488351232 := this
      omega
    obtain ⟨l, hll, hq⟩ := row_ofN (Q := fun i (t : Nd) => ∃ (B : Option Addr) (b : Nat) (C : Option Addr) (c : Nat), W.cells? base (p.add (i * 6)) 6 = some (cellsNd t B b C c) ∧ NdIn W AnyB t B C) len fun i hi => by
      have h1 := hel i hi
      rw [cN6] at h1
      obtain ⟨y', hy'⟩ : ∃ y', elems[i]? = some y' := ⟨_, List.getElem?_eq_getElem (by omega)⟩
      rw [hy', Option.bind_eq_some_iff] at h1
      obtain ⟨cs', hc', ht'⟩ := h1
      obtain ⟨t, B, b, C, c, rfl, hI⟩ := open_node ht' (hwe i y' hy')
      exact ⟨t, B, b, C, c, hc', hI⟩
    subst hll
    refine ⟨l, some p, cap, by rw [capN_of hl], fun i hi => ?_, hlen'⟩
    have hps : p.spot = none := by
      obtain ⟨B, b, C, c, hc, _⟩ := hq 0 (by omega)
      have := cells_getN hc 0 (by omega)
      have := spot_noneN (this.trans (rfl : (cellsNd (l[0]'(by omega)) B b C c)[0]? = some _))
      simpa [Addr.add] using this
    obtain ⟨pb, po, ps⟩ := p
    dsimp only at hps
    subst hps
    obtain ⟨B, b, C, c, hc, hI⟩ := hq i hi
    have hcell : ∀ j, j < 6 → W.cell? ⟨pb, po + i * 6 + j, none⟩ = (cellsNd (l[i]'hi) B b C c)[j]? := fun j hj => by
      have ea : ((⟨pb, po, none⟩ : Addr).add (i * 6)).add j = ⟨pb, po + i * 6 + j, none⟩ := by rw [nadd, nadd]
      rw [← cells_getN hc j hj, ea]
    exact ⟨pb, po, B, b, C, c, ⟨rfl, trivial⟩, ⟨hcell 0 (by omega), hcell 1 (by omega), hcell 2 (by omega), hcell 3 (by omega), hcell 4 (by omega), hcell 5 (by omega)⟩, hI⟩
/-- A net's reading. -/
theorem open_net {W : World} {base : Nat} {sp : Nat → Bool} {hd : Bool} {fuel : Nat} {cs : List Value} {x : DataW H × List MemPlace} (h : DataW.trod enc Tryd.prog W base sp hd fuel 24 cs = some x)
    (hw : ∀ k ∈ DataW.weights Tryd.prog 24 x.1, k ≤ reachBytes) : ∃ (l : List Nd) (A : Option Addr) (c : Nat) (cap : Int), cs = [.slice A l.length (capN l.length c), .int .i64 cap] ∧ NdsIn W AnyB l A ∧ l.length ≤ 140737488351232 := by
  obtain ⟨xs, m, e, hx, hl, hlen, hf⟩ := DataW.trod_struct Tryd.underlying24 h
  rw [cNet] at hl
  match cs, hl with
  | [c0, c1], _ =>
  match xs, hlen with
  | [x0, x1], _ =>
  have h0 := hf 0 { name := "Nodes", type := 22, offset := 0, embedded := false, tag := "", pkgPath := "", byteOffset := 0 } rfl
  have h1 := hf 1 { name := "Cap", type := 3, offset := 1, embedded := false, tag := "", pkgPath := "", byteOffset := 24 } rfl
  dsimp only at h0 h1
  rw [ccN] at h0
  rw [cc3'] at h1
  dsimp at h0 h1
  obtain ⟨k, e1, y1, _⟩ := DataW.trod_int Tryd.underlying3 h1
  obtain rfl := (List.cons.inj e1).1
  subst y1
  have hx1 : x.1 = .agg [x0.1, .lit (.int .i64 k)] := by rw [hx]; simp
  obtain ⟨l, A, c, rfl, hN, hn⟩ := open_nodes h0 (fun q hq => hw q (by
    rw [hx1, DataW.weights, Tryd.underlying24]
    simp [DataW.weightsEach, DataW.weights, hq]))
  exact ⟨l, A, c, k, rfl, hN, hn⟩
/-- A net among the arguments. -/
theorem net_arg {W : World} {base b0 : Nat} {sp : Nat → Bool} {hd : Bool} {v : Value} {d : DataW H} {ps : List MemPlace} (hval : Value.okWide Tryd.prog W .any b0 24 v)
    (h : DataW.Trod enc Tryd.prog W base sp hd 24 v d ps) (hw : ∀ k ∈ DataW.weights Tryd.prog 24 d, k ≤ reachBytes) : ∃ (l : List Nd) (A : Option Addr) (c : Nat) (cap : Int), v = .agg #[.slice A l.length (capN l.length c), .int .i64 cap] ∧ NdsIn W AnyB l A ∧ l.length ≤ 140737488351232 := by
  obtain ⟨cs, rfl, _⟩ := okWide_struct Tryd.underlying24 hval
  obtain ⟨fuel, hf⟩ := h
  obtain ⟨l, A, c, cap, hcs, hN, hn⟩ := open_net hf hw
  refine ⟨l, A, c, cap, ?_, hN, hn⟩
  have : cs = #[.slice A l.length (capN l.length c), .int .i64 cap] := Array.ext' hcs
  rw [this]
theorem net_again {W W' : World} {v : Value} {d : DataW H} {ps : List MemPlace} (h : DataW.Trod enc Tryd.prog W 0 (fun _ => true) true 24 v d ps) (hb : Below W.heap.size W W') (hlt : ∀ x ∈ ps, x.block < W.heap.size)
    {sp : Nat → Bool} (hs : ∀ x ∈ ps, sp x.block = true) : DataW.Trod enc Tryd.prog W' 0 sp true 24 v d ps :=
  WideElems.Trod_stays (by kernel_rfl) (by kernel_rfl) (of_decide_eq_true (by kernel_rfl)) h (fun x hx => hb.same (hlt x hx)) hs
end
end Lx
end Go.Proofs.YtceblpjlklogpaaDoor
namespace Go.Proofs.YtceblpjlklogpaaDoor
open Go.ChangeShapes Go.WideShapes Go.ChangeAt Go.RowKit
open Go.ChangeMaps (open_string shut_string)
namespace Lx
set_option maxRecDepth 100000
abbrev laidN : List (String × DataW Unit) := [("gossamer/store.ports", Rows.laid_gossamer_store_ports)]
theorem tPorts : (Tryd.prog.globals[0]?).map (·.type) = some 57 := by kernel_rfl
theorem uPorts : Tryd.prog.underlying 57 = some (.array 14 3) := by kernel_rfl
theorem uI64 : Tryd.prog.underlying 3 = some (.int .i64) := by kernel_rfl
theorem cPortsT : Tryd.prog.cellsOf 57 = 14 := by kernel_rfl
theorem dPorts : (Rows.laid_gossamer_store_ports : DataW Unit) = Lib.tabData .i64 portsTab := by kernel_rfl
theorem door_metN (os : Os) (args : Array Value) : laidMetH Tryd.prog laidN ((World.doorLaid Tryd.prog 400 os).forCall (fun _ _ => 0) ⟨#[], args, []⟩).memory :=
  laidMetH_of_parts3 (fuel := 20) (laidMet_of_run' 20 (by kernel_rfl) (by kernel_rfl)) (by kernel_rfl) (by kernel_rfl)
theorem ptab_of_laid {W : World} (h : laidMetH Tryd.prog laidN W) : PTab W := by
  rw [MakeChecks.laidMetH_plain _ _ _ (by kernel_rfl)] at h
  unfold laidN at h
  rw [dPorts] at h
  exact Lib.tabIs_of_head gPorts tPorts uPorts uI64 cc3 cPortsT h
end Lx
end Go.Proofs.YtceblpjlklogpaaDoor
namespace Go.Proofs.YtceblpjlklogpaaDoor
namespace Lx
set_option maxRecDepth 100000
theorem check_pos {l : List Nd} {cap : Int} (h : checkV l cap = true) : 0 < l.length ∧ (l.length : Int) ≤ cap := by
  have h1 := of_decide_eq_true h
  exact ⟨by omega, h1.2.2.2.1⟩
/-- A place that is not free, and not the root's. -/
theorem parts_ok {l : List Nd} {cap : Int} {i : Nat} (h : checkV l cap = true) (hi : i < l.length) (h1 : 1 ≤ i) (hk : (ndAt l i).kind ≠ 0) :
    ∃ (la ms : List Nd) (j : Nat), freeV l i = (la, 0) ∧ freeV la i = (la, 122) ∧ makeV la cap (ndAt l i) = (ms, (j : Int), 0) ∧ (j : Int) ≤ i ∧ 0 < la.length ∧ la.length ≤ l.length ∧ (usedV la : Int) = usedV l - 1 ∧ usedV ms = usedV l ∧ (∀ q, (ndAt la q).to.length ≤ (ndAt l q).to.length ∧ (ndAt la q).alts.length ≤ (ndAt l q).alts.length) ∧
      ms.length ≤ l.length + 1 := by
  have hs : ∀ q, ndAt (l.set i Nd.zero) q = if i = q ∧ q < l.length then Nd.zero else ndAt l q := fun q => ndAt_set
  have hu := used_set l i Nd.zero hi
  rw [if_neg hk, show (if Nd.zero.kind = 0 then 0 else 1) = 0 from rfl] at hu
  have hut := used_trim (l.set i Nd.zero)
  have hat0 := at_node (node_of h 0 (by omega))
  have h0k : (ndAt l 0).kind = 1 := hat0.2.2.1.1 rfl
  have hr0 : (ndAt (l.set i Nd.zero) 0).kind ≠ 0 := by rw [hs, if_neg (by omega), h0k]; decide
  have hpos := not_trimmed hr0
  have hlen := (trimV_take (l.set i Nd.zero)).2
  rw [List.length_set] at hlen
  have hi0 : (ndAt (trimV (l.set i Nd.zero)) i).kind = 0 := by
    by_cases hq : i < (trimV (l.set i Nd.zero)).length
    · rw [ndAt_trim _ _ hq, hs, if_pos ⟨rfl, hi⟩]; rfl
    · rw [ndAt_ge (by omega)]; rfl
  have hfree : freeV l i = (trimV (l.set i Nd.zero), 0) := by
    rw [freeV, if_pos ⟨by omega, by omega, by simpa using hk⟩]
    simp
  have hfree2 : freeV (trimV (l.set i Nd.zero)) i = (trimV (l.set i Nd.zero), 122) := by
    rw [freeV, if_neg]
    rintro ⟨_, _, h9⟩
    exact h9 (by simpa using hi0)
  have hati := at_node (node_of h i hi)
  have hk1 : (ndAt l i).kind ≠ 1 := fun e => by have := hati.2.2.1.2 e; omega
  have hkr : 0 ≤ (ndAt l i).kind := by
    have h9 := hati.1
    simp only [nodeV, Bool.and_eq_true, decide_eq_true_eq] at h9
    exact h9.1.1
  have hmk : makeable (ndAt l i) = true := by
    simp only [makeable, hati.1, Bool.and_true, decide_eq_true_eq]
    omega
  have hul := usedV_le l
  have hcap := (check_pos h).2
  have hup : 0 < usedV l := by omega
  obtain ⟨ms, j, e1, e2, e3, e4, e5, e6, e7, e8, e9, e10⟩ := make_ok (ns := trimV (l.set i Nd.zero)) (cap := cap) hmk (by omega)
  refine ⟨_, ms, j, hfree, hfree2, e1, ?_, by omega, hlen, by omega, by omega, fun q => ?_, ?_⟩
  · rcases Nat.lt_or_ge i j with h9 | h9
    · exact absurd hi0 (e9 i h9)
    · omega
  · by_cases hq : q < (trimV (l.set i Nd.zero)).length
    · rw [ndAt_trim _ _ hq, hs]
      split
      · exact ⟨Nat.zero_le _, Nat.zero_le _⟩
      · exact ⟨Nat.le_refl _, Nat.le_refl _⟩
    · rw [ndAt_ge (by omega)]
      exact ⟨Nat.zero_le _, Nat.zero_le _⟩
  · rcases Nat.lt_or_ge ms.length (l.length + 2) with h9 | h9
    · omega
    · exfalso
      obtain ⟨h10, _⟩ := e6 (ms.length - 1) (by omega) (by omega)
      omega
/-- A place that is free, or that there is not. -/
theorem parts_no {l : List Nd} {at_ : Int} (h : ¬ (at_ < l.length ∧ (ndAt l at_.toNat).kind ≠ 0)) : freeV l at_ = (l, 122) := by
  rw [freeV, if_neg]
  rintro ⟨_, h1, h2⟩
  exact h ⟨h1, h2⟩
end Lx
end Go.Proofs.YtceblpjlklogpaaDoor
namespace Go.Proofs.YtceblpjlklogpaaDoor
namespace Lx
theorem small_nl {l : List Nd} {most : Int} (h : smallV l most = true) : (l.length : Int) ≤ most ∧ (∀ i, i < l.length → (ndAt l i).to.length ≤ 100000 ∧ (ndAt l i).alts.length ≤ 100000) ∧ ∀ i, i < l.length → (ndAt l i).to.length ≤ 12 ∧ (ndAt l i).alts.length ≤ 12 := by
  have h1 := of_decide_eq_true h
  exact ⟨h1.2, fun i hi => ⟨by have := (h1.1 i hi).1; omega, by have := (h1.1 i hi).2; omega⟩, h1.1⟩
end Lx
end Go.Proofs.YtceblpjlklogpaaDoor
namespace Go.Proofs.YtceblpjlklogpaaDoor
namespace Lx
set_option maxRecDepth 100000
theorem kind_of_port {l : List Nd} {cap : Int} (h : checkV l cap = true) {i : Nat} (_hi : i < l.length) (hp : 0 < (ndAt l i).to.length) : (ndAt l i).kind ≠ 0 := fun h0 => by
  rw [free_zero h h0] at hp
  exact absurd hp (by simp [Nd.zero])
/-- A link that leads to itself is none. -/
theorem self_link {l : List Nd} {cap : Int} {i k : Nat} (hi : i < l.length) (hk : k < (ndAt l i).to.length) : checkV (setNV l ((i : Int), (k : Int)) ((i : Int), (k : Int))) cap = false := by
  rw [Bool.eq_false_iff]
  intro h
  have hh : hasV l ((i : Int), (k : Int)) = true := (hasV_iff _ _).2 ⟨by simp, by simpa using hi, by simp, by simpa using hk⟩
  have hh2 : hasV (setNV l ((i : Int), (k : Int)) ((i : Int), (k : Int))) ((i : Int), (k : Int)) = true := by rw [hasV_setN]; exact hh
  have h1 := checked_link h hh2
  rw [toAt_setN hh hh, if_pos rfl] at h1
  exact h1.2.1 rfl
/-- All ports of the node are linked to its own. -/
def aloneV (l : List Nd) (i : Nat) : Bool := (ndAt l i).to.all fun q => decide (q.1 = (i : Int))
theorem to_get {l : List Nd} {i j : Nat} (hj : j < (ndAt l i).to.length) : toAt l ((i : Int), (j : Int)) = ((ndAt l i).to[j]'hj) := by
  simp [toAt, hj]
theorem alone_iff {l : List Nd} {i : Nat} : aloneV l i = true ↔ ∀ j, j < (ndAt l i).to.length → (toAt l ((i : Int), (j : Int))).1 = (i : Int) := by
  rw [aloneV, List.all_eq_true]
  constructor
  · intro h j hj
    rw [to_get hj]
    exact of_decide_eq_true (h _ (List.getElem_mem hj))
  · intro h q hq
    obtain ⟨j, hj, rfl⟩ := List.mem_iff_getElem.1 hq
    have := h j hj
    rw [to_get hj] at this
    exact decide_eq_true this
/-- A node of a net that may be is freed. -/
theorem freed_check {l : List Nd} {cap : Int} {i : Nat} (h : checkV l cap = true) (hi : i < l.length) (hk : (ndAt l i).kind ≠ 0) :
    freeV l i = (trimV (l.set i Nd.zero), 0) ∧ (checkV (trimV (l.set i Nd.zero)) cap = true ↔ aloneV l i = true ∧ 0 < i ∧ 0 < (trimV (l.set i Nd.zero)).length) := by
  have hfree : freeV l i = (trimV (l.set i Nd.zero), 0) := by
    rw [freeV, if_pos ⟨by omega, by omega, by simpa using hk⟩]
    simp
  refine ⟨hfree, ?_⟩
  obtain ⟨ks, hks⟩ : ∃ q, q = trimV (l.set i Nd.zero) := ⟨_, rfl⟩
  have hlen : ks.length ≤ l.length := by
    have := (trimV_take (l.set i Nd.zero)).2
    rw [List.length_set] at this
    rw [hks]; exact this
  have hat : ∀ q, q < ks.length → ndAt ks q = if i = q then Nd.zero else ndAt l q := fun q hq => by
    rw [hks, ndAt_trim _ _ (by rw [← hks]; exact hq), ndAt_set]
    by_cases e : i = q
    · rw [if_pos ⟨e, by omega⟩, if_pos e]
    · rw [if_neg (fun h => e h.1), if_neg e]
  have hin : ∀ q, q < l.length → q ≠ i → (ndAt l q).kind ≠ 0 → q < ks.length := fun q hq hne hz => by
    rw [hks]
    exact not_trimmed (by rw [ndAt_set, if_neg (fun h => hne h.1.symm)]; exact hz)
  rw [← hks]
  have hlk : ∀ q s, q < l.length → s < (ndAt l q).to.length → hasV l (toAt l ((q : Int), (s : Int))) = true ∧ toAt l ((q : Int), (s : Int)) ≠ ((q : Int), (s : Int)) ∧ toAt l (toAt l ((q : Int), (s : Int))) = ((q : Int), (s : Int)) := fun q s hq hs =>
    checked_link h ((hasV_iff _ _).2 ⟨by simp, by simpa using hq, by simp, by simpa using hs⟩)
  have hzero : (Nd.zero).to = [] := rfl
  constructor
  · intro hc
    have hcp := (check_pos hc).1
    have hi0 : 0 < i := by
      rcases Nat.eq_zero_or_pos i with e | e
      · exfalso
        have h9 := (at_node (node_of hc 0 hcp)).2.2.1.1 rfl
        rw [hat 0 hcp, if_pos e] at h9
        exact absurd h9 (by decide)
      · exact e
    refine ⟨alone_iff.2 fun j hj => ?_, hi0, hcp⟩
    refine Classical.byContradiction fun hne => ?_
    obtain ⟨h1, h2, h3⟩ := hlk i j hi hj
    obtain ⟨⟨qa, qb⟩, hq⟩ : ∃ q, q = toAt l ((i : Int), (j : Int)) := ⟨_, rfl⟩
    rw [← hq] at h1 h2 h3 hne
    obtain ⟨g1, g2, g3, g4⟩ := (hasV_iff _ _).1 h1
    simp only at g1 g2 g3 g4 hne
    obtain ⟨a, rfl⟩ : ∃ a : Nat, qa = (a : Int) := ⟨qa.toNat, by omega⟩
    obtain ⟨b, rfl⟩ : ∃ b : Nat, qb = (b : Int) := ⟨qb.toNat, by omega⟩
    simp only [Int.toNat_natCast] at g4
    have hai : i ≠ a := fun e => hne (by rw [e])
    have hal : a < ks.length := hin a (by omega) (fun e => hai e.symm) (kind_of_port h (by omega) (by omega))
    have hka : ndAt ks a = ndAt l a := by rw [hat a hal, if_neg hai]
    have hk2 : hasV ks ((a : Int), (b : Int)) = true := (hasV_iff _ _).2 ⟨by simp, by simpa using hal, by simp, by simpa [hka] using g4⟩
    have h9 := (checked_link hc hk2).1
    have he : toAt ks ((a : Int), (b : Int)) = ((i : Int), (j : Int)) := by
      rw [← h3]
      simp only [toAt, Int.toNat_natCast, hka]
    rw [he] at h9
    obtain ⟨_, f2, _, f4⟩ := (hasV_iff _ _).1 h9
    simp only [Int.toNat_natCast] at f2 f4
    rw [hat i (by omega), if_pos rfl, hzero] at f4
    exact absurd f4 (by simp)
  · rintro ⟨ha, hi0, hpos⟩
    have ha := alone_iff.1 ha
    have hc := of_decide_eq_true h
    rw [checkV]
    refine decide_eq_true ⟨hc.1, hc.2.1, hpos, by have := hc.2.2.2.1; omega, ?_, fun q hq => ?_⟩
    · rw [hks]
      exact trimV_end _ (fun e => by rw [← hks] at e; rw [e] at hpos; simp at hpos)
    · by_cases e : i = q
      · rw [atOk, linkedV, hat q hq, if_pos e]
        have : ¬ q = 0 := by omega
        simp [this, Nd.zero, nodeV, hasNameK, hasNumK, altsFrom, Nd.ports, portsN]
      · have hqe := hat q hq
        rw [if_neg e] at hqe
        have hold := hc.2.2.2.2.2 q (by omega)
        rw [atOk] at hold ⊢
        rw [hqe]
        simp only [Bool.and_eq_true] at hold ⊢
        refine ⟨hold.1, hold.2.1, hold.2.2.1, ?_⟩
        rw [linkedV]
        refine decide_eq_true fun s hs => ?_
        rw [hqe] at hs
        obtain ⟨h1, h2, h3⟩ := hlk q s (by omega) hs
        have hte : toAt ks ((q : Int), (s : Int)) = toAt l ((q : Int), (s : Int)) := by simp only [toAt, Int.toNat_natCast, hqe]
        obtain ⟨⟨qa, qb⟩, hq2⟩ : ∃ r, r = toAt l ((q : Int), (s : Int)) := ⟨_, rfl⟩
        rw [← hq2] at h1 h2 h3 hte
        obtain ⟨g1, g2, g3, g4⟩ := (hasV_iff _ _).1 h1
        simp only at g1 g2 g3 g4
        obtain ⟨a, rfl⟩ : ∃ a : Nat, qa = (a : Int) := ⟨qa.toNat, by omega⟩
        obtain ⟨b, rfl⟩ : ∃ b : Nat, qb = (b : Int) := ⟨qb.toNat, by omega⟩
        simp only [Int.toNat_natCast] at g4
        have hai : i ≠ a := fun e2 => by
          have h9 := ha b (by rw [e2]; omega)
          rw [e2, h3] at h9
          simp only at h9
          omega
        have hal : a < ks.length := hin a (by omega) (fun e => hai e.symm) (kind_of_port h (by omega) (by omega))
        have hka : ndAt ks a = ndAt l a := by rw [hat a hal, if_neg hai]
        rw [portOk]
        simp only [hte, Bool.and_eq_true, Bool.not_eq_true', beq_eq_false_iff_ne, ne_eq, beq_iff_eq]
        refine ⟨h2, (hasV_iff _ _).2 ⟨by simp, by simpa using hal, by simp, by simpa [hka] using g4⟩, ?_⟩
        rw [← h3]
        simp only [toAt, Int.toNat_natCast, hka]
end Lx
end Go.Proofs.YtceblpjlklogpaaDoor
