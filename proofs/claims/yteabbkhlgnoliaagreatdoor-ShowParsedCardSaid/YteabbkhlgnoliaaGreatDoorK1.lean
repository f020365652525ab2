/-
  Texts that lie one behind the other: Plain Leaf Shelf Words Tok Sign Scan Toks Rec All Rows4 Again ShelfB Bld AllRow Fixed.
-/
import Derived.Test.YteabbkhlgnoliaaGreatDoorProg
import Derived.Lib.Strings
import Derived.WalkKit
import Derived.BigCall
import Derived.WalkLawsBesides
import Derived.Below
import Derived.Lib.Hide
import Derived.Lib.OthersKept
import Derived.Shelf.Abstract
import Derived.Shelf.LaysM
import Derived.Shelf.Strconv.Clone
import Derived.Shelf.Strings.Prefix
import Derived.Laws.OwnMore
import Derived.Laws.Rows
import Derived.Deep.Draws
import Derived.Lib.IndexBytes
import Derived.OwnWalk
import Derived.Recover
import Derived.Defers
import Derived.Tactics
import Derived.Calls
import Derived.RegionTactic
import Derived.BigRegion
import Derived.Lib.SmallJoins
import Derived.Laws.StructEq
import Derived.BigQuiet
import Derived.Deep.QuietTactic
import Derived.Shelf.Strings.Builder1
import Derived.Shelf.Strings.BuilderF
import Derived.Shelf.Strings.BuilderK
import Derived.Lib.Builder
import Derived.Lib.AppendStr
import Derived.Lib.UnsafeStr
import Derived.Laws.Externs
import Derived.Lib.FrozenHead
import Derived.WalkSmall
namespace Go.Proofs.YteabbkhlgnoliaaGreatDoor
namespace Lx
set_option maxRecDepth 100000

def lowR (r : Int) : Bool := decide (97 ≤ r) && decide (r ≤ 122)
def upR (r : Int) : Bool := decide (65 ≤ r) && decide (r ≤ 90)
def digR (r : Int) : Bool := decide (48 ≤ r) && decide (r ≤ 57)
def blkR (r : Int) : Bool := (r == 32 || r == 10) || r == 9
def ldR (r : Int) : Bool := lowR r || (upR r || digR r)

/-- How many bytes at the beginning fit. -/
def run (P : Int → Bool) : List UInt8 → Nat
  | [] => 0
  | c :: r => if P (c.toNat : Int) then run P r + 1 else 0

theorem run_le (P : Int → Bool) : ∀ l : List UInt8, run P l ≤ l.length
  | [] => by simp [run]
  | c :: r => by
    have := run_le P r
    by_cases h : P (c.toNat : Int) <;> simp [run, h]; omega

theorem run_drop (P : Int → Bool) (l : List UInt8) (k : Nat) (h : k < l.length) : run P (l.drop k) = if P ((l[k]'h).toNat : Int) then run P (l.drop (k + 1)) + 1 else 0 := by
  rw [List.drop_eq_getElem_cons h, run]
theorem run_nil (P : Int → Bool) (l : List UInt8) (k : Nat) (h : l.length ≤ k) : run P (l.drop k) = 0 := by
  rw [List.drop_eq_nil_of_le h, run]

/-- The number of a text of digits. -/
def numV (l : List UInt8) : Int := l.foldl (fun n c => n * 10 + ((c.toNat : Int) - 48)) 0
theorem numV_nil : numV [] = 0 := rfl
theorem numV_snoc (l : List UInt8) (c : UInt8) : numV (l ++ [c]) = numV l * 10 + ((c.toNat : Int) - 48) := by
  simp [numV, List.foldl_append]
theorem dig_of (P : Int → Bool) : ∀ (l : List UInt8), run P l = l.length → ∀ c ∈ l, P (c.toNat : Int) = true
  | [], _, c, hc => by simp at hc
  | d :: r, h, c, hc => by
    cases hd : P (d.toNat : Int)
    · simp [run, hd] at h
    · simp only [run, hd, if_true, List.length_cons] at h
      rcases List.mem_cons.1 hc with rfl | hc
      · exact hd
      · exact dig_of P r (by omega) c hc
theorem numV_bd : ∀ (k : Nat) (l : List UInt8), l.length = k → (∀ c ∈ l, digR (c.toNat : Int) = true) → 0 ≤ numV l ∧ numV l < 10 ^ k := by
  intro k
  induction k with
  | zero => intro l hl _; have : l = [] := List.eq_nil_of_length_eq_zero hl; subst this; simp [numV]
  | succ k ih =>
    intro l hl h
    have hne : l ≠ [] := by intro e; subst e; simp at hl
    have e := (List.dropLast_concat_getLast hne).symm
    have hc := h (l.getLast hne) (List.getLast_mem hne)
    obtain ⟨a, b⟩ := ih l.dropLast (by simp; omega) (fun c hc => h c (List.dropLast_subset _ hc))
    rw [e, numV_snoc]
    simp only [digR, Bool.and_eq_true, decide_eq_true_eq] at hc
    rw [Int.pow_succ]
    omega
theorem pow_le17 (k : Nat) (h : k < 18) : (10 : Int) ^ k ≤ 100000000000000000 := by
  have : ∀ j : Fin 18, (10 : Int) ^ j.val ≤ 100000000000000000 := by decide
  exact this ⟨k, h⟩
theorem take_snoc (l : List UInt8) (k : Nat) (h : k < l.length) : l.take (k + 1) = l.take k ++ [l[k]'h] := by
  rw [List.take_succ_eq_append_getElem h]

/-- The words that are no names. -/
def wordS (l : List UInt8) : Bool := l == [108, 101, 116] || (l == [108, 101, 116, 114, 101, 99] || (l == [105, 110] || (l == [99, 97, 115, 101] || l == [111, 102])))
/-- A text of letters and digits: its kind and its number, or its error. -/
def numK (l : List UInt8) : Except Int (Int × Int) :=
  if run digR l < l.length then .error 10 else if 18 < l.length ∨ (1 < l.length ∧ l.head? = some 48) then .error 11 else .ok (3, numV l)
def runK (l : List UInt8) : Except Int (Int × Int) :=
  if 0 < run digR l then numK l else if 16 < l.length then .error 11 else if wordS l = true then .ok (4, 0) else if 0 < run lowR l then .ok (1, 0) else .ok (2, 0)

/-- The signs, in the program's order. -/
def signsS : List (List UInt8) := [[45, 62], [61, 61], [92], [46], [40], [41], [61], [123], [125], [124], [43], [45], [42], [47], [60]]
def signOf (l : List UInt8) : Option (List UInt8) := signsS.find? fun g => Lib.hasPrefix l g
theorem find_first {α : Type} (p : α → Bool) (d : α) : ∀ (L : List α) (m : Nat), m < L.length → (∀ j, j < m → p (L.getD j d) = false) → p (L.getD m d) = true → L.find? p = some (L.getD m d)
  | [], m, h, _, _ => by simp at h
  | a :: L, 0, _, _, h => by
    have h1 : p a = true := by simpa using h
    rw [List.find?_cons_of_pos h1]
    rfl
  | a :: L, m + 1, hm, hf, h => by
    have h0 : p a = false := by simpa using hf 0 (by omega)
    rw [List.find?_cons_of_neg (by simp [h0])]
    have := find_first p d L m (by simpa using hm) (fun j hj => by simpa using hf (j + 1) (by omega)) (by simpa using h)
    simpa using this
theorem find_none {α : Type} (p : α → Bool) (d : α) : ∀ (L : List α), (∀ j, j < L.length → p (L.getD j d) = false) → L.find? p = none
  | [], _ => rfl
  | a :: L, hf => by
    have h0 : p a = false := by simpa using hf 0 (by simp)
    rw [List.find?_cons_of_neg (by simp [h0])]
    exact find_none p d L (fun j hj => by simpa using hf (j + 1) (by simpa using hj))
/-- The token at the beginning of a text that begins with no blank: its kind, its number, its text; or its error. -/
def tokK (l : List UInt8) : Except Int (Int × Int × List UInt8) :=
  if 0 < run ldR l then
    match runK (l.take (run ldR l)) with
    | .ok (k, n) => .ok (k, n, l.take (run ldR l))
    | .error e => .error e
  else
    match signOf l with
    | some g => .ok (5, 0, g)
    | none => .error 10

end Lx
end Go.Proofs.YteabbkhlgnoliaaGreatDoor
namespace Go.Proofs.YteabbkhlgnoliaaGreatDoor
open Go.RowKit
namespace Lx
set_option maxRecDepth 100000
theorem ret_bool {a b : Bool} (h : a = b) : Ending.returned (.bool a) = .returned (.bool b) := by rw [h]
theorem ret_int {k : IntKind} {a b : Int} (h : a = b) : Ending.returned (.int k a) = .returned (.int k b) := by rw [h]

theorem small_any (r : Int) (w : World) : Calls Tryz.prog 162 #[.int .i32 r] w fun e w' => e = .returned (.bool (lowR r)) ∧ w = w' := by
  go_enter Tryz.func162, Tryz.ntmps162
  go_wp2
  all_goals
    go_ret
    refine ⟨ret_bool ?_, rfl⟩
    first | (simp [lowR, *]; done) | (simp [lowR]; omega)
theorem capital_any (r : Int) (w : World) : Calls Tryz.prog 163 #[.int .i32 r] w fun e w' => e = .returned (.bool (upR r)) ∧ w = w' := by
  go_enter Tryz.func163, Tryz.ntmps163
  go_wp2
  all_goals
    go_ret
    refine ⟨ret_bool ?_, rfl⟩
    first | (simp [upR, *]; done) | (simp [upR]; omega)
theorem digit_any (r : Int) (w : World) : Calls Tryz.prog 164 #[.int .i32 r] w fun e w' => e = .returned (.bool (digR r)) ∧ w = w' := by
  go_enter Tryz.func164, Tryz.ntmps164
  go_wp2
  all_goals
    go_ret
    refine ⟨ret_bool ?_, rfl⟩
    first | (simp [digR, *]; done) | (simp [digR]; omega)
theorem blank_any (r : Int) (w : World) : Calls Tryz.prog 100 #[.int .i32 r] w fun e w' => e = .returned (.bool (blkR r)) ∧ w = w' := by
  go_enter Tryz.func100, Tryz.ntmps100
  go_wp2
  all_goals
    go_ret
    refine ⟨ret_bool ?_, rfl⟩
    first | rfl | (simp [blkR, *]; done)
theorem ld_any (r : Int) (w : World) : Calls Tryz.prog 139 #[.int .i32 r] w fun e w' => e = .returned (.bool (ldR r)) ∧ w = w' := by
  cases h1 : lowR r
  · cases h2 : upR r
    · go_enter Tryz.func139, Tryz.ntmps139
      go_wp2_with (first | (go_at_call 162; refine (small_any _ _).mono ?_; rintro e w' ⟨rfl, rfl⟩) | (go_at_call 163; refine (capital_any _ _).mono ?_; rintro e w' ⟨rfl, rfl⟩) | (go_at_call 164; refine (digit_any _ _).mono ?_; rintro e w' ⟨rfl, rfl⟩))
      all_goals
        go_ret
        refine ⟨ret_bool ?_, rfl⟩
        simp [ldR, h1, h2]
    · go_enter Tryz.func139, Tryz.ntmps139
      go_wp2_with (first | (go_at_call 162; refine (small_any _ _).mono ?_; rintro e w' ⟨rfl, rfl⟩) | (go_at_call 163; refine (capital_any _ _).mono ?_; rintro e w' ⟨rfl, rfl⟩) | (go_at_call 164; refine (digit_any _ _).mono ?_; rintro e w' ⟨rfl, rfl⟩))
      all_goals
        go_ret
        refine ⟨ret_bool ?_, rfl⟩
        simp [ldR, h1, h2]
  · go_enter Tryz.func139, Tryz.ntmps139
    go_wp2_with (first | (go_at_call 162; refine (small_any _ _).mono ?_; rintro e w' ⟨rfl, rfl⟩) | (go_at_call 163; refine (capital_any _ _).mono ?_; rintro e w' ⟨rfl, rfl⟩) | (go_at_call 164; refine (digit_any _ _).mono ?_; rintro e w' ⟨rfl, rfl⟩))
    all_goals
      go_ret
      refine ⟨ret_bool ?_, rfl⟩
      simp [ldR, h1]

theorem decode_big (s : ByteArray) (pos : Nat) (h : pos < s.size) (hh : 128 ≤ (s[pos]'h).toNat) : 128 ≤ ((Utf8.decode s pos).1 : Int) := by
  have := (decode_high s pos h hh).1
  omega

set_option maxHeartbeats 400000 in
theorem span_any (K : Nat) (P : Int → Bool) (hen : ∀ args w, (callFunc K args).run Tryz.prog w = .ok (.enter K args) w)
    (hP : ∀ (r : Int) (w : World), Calls Tryz.prog K #[.int .i32 r] w fun e w' => e = .returned (.bool (P r)) ∧ w = w') (hhi : ∀ r, 128 ≤ r → P r = false)
    (s : ByteArray) (w : World) :
    Calls Tryz.prog 99 #[.string s, .func (.func K) #[] #[]] w fun e w' => e = .returned (.int .i64 (run P s.data.toList)) ∧ Below w.heap.size w w' := by
  go_enter Tryz.func99, Tryz.ntmps99
  go_wp2_with fail
  go_loopw [] (fun wr => ∃ k : Nat, k ≤ s.size ∧ wr = w.iter s k ∧ run P s.data.toList = k + run P (s.data.toList.drop k)) (fun wr => s.size - wr.iterPos w.heap.size)
  case atStart => exact ⟨0, Nat.zero_le _, rfl, by simp⟩
  case round =>
    obtain ⟨k, hk, rfl, hrun⟩ := hrel
    have HR := Lib.hid hrun
    clear hrun
    by_cases hlt : k < s.size
    · have hlen : k < s.data.toList.length := by simpa using hlt
      have hb : s.data.toList[k]'hlen = s[k] := by simp [ByteArray.getElem_eq_getElem_data]
      have hd := Lib.hid (run_drop P s.data.toList k hlen)
      rw [hb] at hd
      clear hb
      have hnx : ∀ ty, (Instr.next (.pointer (some ⟨w.heap.size, 0, none⟩)) true ty).run Tryz.prog (w.iter s k) = _ := fun ty => run_next_any w s k ty hlt
      by_cases ha : (s[k]'hlt).toNat < 128
      · have he := decode_ascii s k hlt ha
        rw [he] at hnx
        clear he
        cases hp : P ((s[k]'hlt).toNat : Int)
        · go_wp2_with fail
          refine (hP _ _).mono ?_
          rintro e w' ⟨rfl, rfl⟩
          go_wp2_with fail
          go_ret
          refine ⟨ret_int ?_, (Below.refl _ w).alloc (Nat.le_refl _) _⟩
          rw [HR.out, hd.out, hp]
          simp
        · go_wp2_with fail
          refine (hP _ _).mono ?_
          rintro e w' ⟨rfl, rfl⟩
          go_wp2_with fail
          go_roundw
          case rel =>
            refine ⟨k + 1, by omega, rfl, ?_⟩
            rw [HR.out, hd.out, hp]
            simp; omega
          case measure => simp; omega
      · have hbig : 128 ≤ ((Utf8.decode s k).1 : Int) := decode_big s k hlt (by omega)
        have hp := hhi _ hbig
        have hq := Lib.hid (hhi ((s[k]'hlt).toNat : Int) (by omega))
        go_wp2_with fail
        refine (hP _ _).mono ?_
        rintro e w' ⟨rfl, rfl⟩
        go_wp2_with fail
        go_ret
        refine ⟨ret_int ?_, (Below.refl _ w).alloc (Nat.le_refl _) _⟩
        rw [HR.out, hd.out, hq.out]
        simp
    · have hnx : ∀ ty, (Instr.next (.pointer (some ⟨w.heap.size, 0, none⟩)) true ty).run Tryz.prog (w.iter s k) = _ := fun ty => run_next_end w s k ty hlt
      go_wp2
      go_ret
      refine ⟨ret_int ?_, ?_⟩
      · rw [HR.out, run_nil P _ _ (by simp; omega)]
        simp; omega
      · exact (Below.refl _ w).alloc (Nat.le_refl _) _

theorem span_blk (s : ByteArray) (w : World) : Calls Tryz.prog 99 #[.string s, .func (.func 100) #[] #[]] w fun e w' => e = .returned (.int .i64 (run blkR s.data.toList)) ∧ Below w.heap.size w w' :=
  span_any 100 blkR (enters_of Tryz.func100 (by kernel_rfl) rfl) blank_any (fun r h => by simp [blkR]; omega) s w
theorem span_ld (s : ByteArray) (w : World) : Calls Tryz.prog 99 #[.string s, .func (.func 139) #[] #[]] w fun e w' => e = .returned (.int .i64 (run ldR s.data.toList)) ∧ Below w.heap.size w w' :=
  span_any 139 ldR (enters_of Tryz.func139 (by kernel_rfl) rfl) ld_any (fun r h => by simp [ldR, lowR, upR, digR]; omega) s w
theorem span_dig (s : ByteArray) (w : World) : Calls Tryz.prog 99 #[.string s, .func (.func 164) #[] #[]] w fun e w' => e = .returned (.int .i64 (run digR s.data.toList)) ∧ Below w.heap.size w w' :=
  span_any 164 digR (enters_of Tryz.func164 (by kernel_rfl) rfl) digit_any (fun r h => by simp [digR]; omega) s w
theorem span_low (s : ByteArray) (w : World) : Calls Tryz.prog 99 #[.string s, .func (.func 162) #[] #[]] w fun e w' => e = .returned (.int .i64 (run lowR s.data.toList)) ∧ Below w.heap.size w w' :=
  span_any 162 lowR (enters_of Tryz.func162 (by kernel_rfl) rfl) small_any (fun r h => by simp [lowR]; omega) s w
end Lx
end Go.Proofs.YteabbkhlgnoliaaGreatDoor
namespace Go.Proofs
open Go.Shelf
def Tryz.laysM316_ren : Go.Shelf.Ren := ⟨fun | 316 => 86 | n => n, fun | 9 => 9 | 3 => 3 | 4 => 4 | 37 => 51 | 0 => 0 | 127 => 94 | 5 => 5 | n => n, fun | n => n⟩
theorem Tryz.laysM316 : Go.Proofs.LaysM.n316 Tryz.prog Tryz.laysM316_ren := {
  mixed := by kernel_rfl
  f316 := Tryz.func86.trans (congrArg some (by kernel_rfl))
  t0 := Tryz.underlying0
  a0 := Tryz.isAgg0
  z0 := Tryz.sizeOf0
  v0 := Tryz.zeroValue0
  t3 := Tryz.underlying3
  a3 := Tryz.isAgg3
  z3 := Tryz.sizeOf3
  v3 := Tryz.zeroValue3
  t4 := Tryz.underlying4
  a4 := Tryz.isAgg4
  z4 := Tryz.sizeOf4
  v4 := Tryz.zeroValue4
  t9 := Tryz.underlying9
  a9 := Tryz.isAgg9
  z9 := Tryz.sizeOf9
  v9 := Tryz.zeroValue9
  t37 := Tryz.underlying51
  a37 := Tryz.isAgg51
  z37 := Tryz.sizeOf51
  v37 := Tryz.zeroValue51
  t127 := Tryz.underlying94
  a127 := Tryz.isAgg94
  z127 := Tryz.sizeOf94
  v127 := Tryz.zeroValue94
  t5 := Tryz.underlying5
  a5 := Tryz.isAgg5
  z5 := Tryz.sizeOf5
  v5 := Tryz.zeroValue5
  i0 := by kernel_rfl
  i3 := by kernel_rfl
  i4 := by kernel_rfl
  i5 := by kernel_rfl
  i9 := by kernel_rfl
  i37 := by kernel_rfl
  i127 := by kernel_rfl }
open Go.RowKit in
theorem Tryz.stringslite_Clone (s : ByteArray) (w : World) (hlim : s.size ≤ 281474976710656) :
    Calls Tryz.prog 86 #[.string s] w fun e w' => e = .returned (.string s) ∧ Below w.heap.size w w' := Any.stringslite_Clone Tryz.laysM316 s w hlim
def Tryz.lays206_ren : Go.Shelf.Ren := ⟨fun | 206 => 167 | n => n, fun | 9 => 9 | 4 => 4 | 3 => 3 | n => n, fun | n => n⟩
theorem Tryz.lays206 : Go.Proofs.Lays.n206 Tryz.prog Tryz.lays206_ren := {
  mixed := by kernel_rfl
  f206 := Tryz.func167.trans (congrArg some (by kernel_rfl))
  t3 := Tryz.underlying3
  a3 := Tryz.isAgg3
  z3 := Tryz.sizeOf3
  v3 := Tryz.zeroValue3
  t4 := Tryz.underlying4
  a4 := Tryz.isAgg4
  z4 := Tryz.sizeOf4
  v4 := Tryz.zeroValue4
  t9 := Tryz.underlying9
  a9 := Tryz.isAgg9
  z9 := Tryz.sizeOf9
  v9 := Tryz.zeroValue9 }
def Tryz.lays99_ren : Go.Shelf.Ren := ⟨fun | 99 => 141 | 206 => 167 | n => n, fun | 9 => 9 | 4 => 4 | 3 => 3 | n => n, fun | n => n⟩
theorem Tryz.lays99 : Go.Proofs.Lays.n99 Tryz.prog Tryz.lays99_ren := {
  mixed := by kernel_rfl
  f99 := Tryz.func141.trans (congrArg some (by kernel_rfl))
  f206 := Tryz.func167.trans (congrArg some (by kernel_rfl))
  t3 := Tryz.underlying3
  a3 := Tryz.isAgg3
  z3 := Tryz.sizeOf3
  v3 := Tryz.zeroValue3
  t4 := Tryz.underlying4
  a4 := Tryz.isAgg4
  z4 := Tryz.sizeOf4
  v4 := Tryz.zeroValue4
  t9 := Tryz.underlying9
  a9 := Tryz.isAgg9
  z9 := Tryz.sizeOf9
  v9 := Tryz.zeroValue9 }
open Go.RowKit Go.Lib in
theorem Tryz.strings_HasPrefix (s p : ByteArray) (w : World) :
    Calls Tryz.prog 141 #[.string s, .string p] w fun e w' => e = .returned (.bool (Lib.hasPrefix s.data.toList p.data.toList)) ∧ w' = w := Any.strings_HasPrefix Tryz.lays99 s p w
end Go.Proofs
namespace Go.Proofs.YteabbkhlgnoliaaGreatDoor
open Go.RowKit
namespace Lx
set_option maxRecDepth 100000

/-- Block g holds just the cells cs, of element type t, and none of them is frozen. -/
def Lies (w : World) (g : Nat) (t : TypeId) (cs : Array Value) : Prop := w.heap[g]? = some (.cells cs t (0, 0))

section
variable {w w' : World} {g : Nat} {t : TypeId} {cs : Array Value}
theorem Lies.lt (h : Lies w g t cs) : g < w.heap.size := by
  by_cases hlt : g < w.heap.size
  · exact hlt
  · unfold Lies at h
    rw [Array.getElem?_eq_none (by omega)] at h
    cases h
theorem Lies.cell (h : Lies w g t cs) (i : Nat) : w.cell? ⟨g, i, none⟩ = cs[i]? := cell_of_row w g i cs t (0, 0) h
theorem Lies.frozen (h : Lies w g t cs) (i : Nat) : w.frozen? ⟨g, i, none⟩ = false := by
  unfold Lies at h
  simp [World.frozen?, h]
theorem Lies.new (w : World) (t : TypeId) (cs : Array Value) : Lies (w.alloc (.cells cs t)) w.heap.size t cs := by
  show (w.heap.push _)[w.heap.size]? = _
  simp
theorem Lies.old (h : Lies w g t cs) (o : Obj) : Lies (w.alloc o) g t cs := (Below.heap_alloc w o g h.lt).trans h
theorem Lies.drew (h : Lies w g t cs) : Lies w.drew g t cs := h
theorem Lies.drewN (h : Lies w g t cs) (n : Nat) : Lies (w.drewN n) g t cs := h
theorem Lies.below {B : Nat} (h : Lies w g t cs) (hb : Below B w w') (hg : g < B) : Lies w' g t cs := (hb.block g hg).trans h
theorem Lies.put (h : Lies w g t cs) (i : Nat) (u : Value) : Lies (w.setCell ⟨g, i, none⟩ u) g t (cs.setIfInBounds i u) := by
  unfold Lies at h ⊢
  simp [World.setCell, Array.getElem?_modify, h]
theorem Lies.far (h : Lies w g t cs) {p : Addr} (hp : g ≠ p.block) (u : Value) : Lies (w.setCell p u) g t cs := (Below.heap_setCell w p u g hp).trans h
theorem Lies.four {a b c d : Value} (h : Lies w g t #[a, b, c, d]) :
    (w.cell? ⟨g, 0, none⟩ = some a ∧ w.cell? ⟨g, 1, none⟩ = some b ∧ w.cell? ⟨g, 2, none⟩ = some c ∧ w.cell? ⟨g, 3, none⟩ = some d) ∧
    w.frozen? ⟨g, 0, none⟩ = false ∧ w.frozen? ⟨g, 1, none⟩ = false ∧ w.frozen? ⟨g, 2, none⟩ = false ∧ w.frozen? ⟨g, 3, none⟩ = false :=
  ⟨⟨h.cell 0, h.cell 1, h.cell 2, h.cell 3⟩, h.frozen 0, h.frozen 1, h.frozen 2, h.frozen 3⟩
end
end Lx
end Go.Proofs.YteabbkhlgnoliaaGreatDoor
namespace Go.Proofs.YteabbkhlgnoliaaGreatDoor
open Go.RowKit
namespace Lx
set_option maxRecDepth 100000
/-- A result that lies in a block of four cells, of type 33. -/
theorem res_tok {fn : Func} {p : Tmp} (h : fn.results = #[.cell p 68]) {tmps : Array Value} {g : Nat} {a b c d : Value} {w : World} (hp : tmps.getD p undef = .pointer (some ⟨g, 0, none⟩)) (L : Lies w g 68 #[a, b, c, d]) :
    (results fn tmps).run Tryz.prog w = .ok (.agg #[a, b, c, d]) w := by
  have hl := run_loadVar_row (P := Tryz.prog) w g 68 68 #[a, b, c, d] (0, 0) _ L Tryz.underlying68 rfl (by kernel_rfl)
  have hp' : tmps[p]?.getD undef = .pointer (some ⟨g, 0, none⟩) := by simpa using hp
  simp only [results, h]
  simp [hp', asAddr, hl]
theorem Lies.all {w : World} {g : Nat} {t : TypeId} {a b c d : Value} (h : Lies w g t #[a, b, c, d]) (x y z u : Value) : Lies ((((w.setCell ⟨g, 0, none⟩ x).setCell ⟨g, 1, none⟩ y).setCell ⟨g, 2, none⟩ z).setCell ⟨g, 3, none⟩ u) g t #[x, y, z, u] := by
  simpa using (((h.put 0 x).put 1 y).put 2 z).put 3 u
theorem Below.all {B : Nat} {a w : World} (h : Below B a w) {g : Nat} (hg : B ≤ g) (x y z u : Value) : Below B a ((((w.setCell ⟨g, 0, none⟩ x).setCell ⟨g, 1, none⟩ y).setCell ⟨g, 2, none⟩ z).setCell ⟨g, 3, none⟩ u) :=
  (((h.setCell (p := ⟨g, 0, none⟩) hg x).setCell (p := ⟨g, 1, none⟩) hg y).setCell (p := ⟨g, 2, none⟩) hg z).setCell (p := ⟨g, 3, none⟩) hg u

theorem clone_any (s : ByteArray) (w : World) (hs : s.size ≤ 281474976710656) : Calls Tryz.prog 46 #[.string s] w fun e w' => e = .returned (.string s) ∧ Below w.heap.size w w' := by
  go_enter Tryz.func46, Tryz.ntmps46
  go_wp2_with fail
  refine (Tryz.stringslite_Clone s _ hs).mono ?_
  rintro e w1 ⟨rfl, hb1⟩
  go_wp2_with fail
  go_ret
  exact ⟨rfl, hb1⟩

set_option maxHeartbeats 1000000 in
theorem number_ok (s : ByteArray) (at_ : Int) (w : World) (hd : run digR s.data.toList = s.data.toList.length) (h18 : s.size ≤ 18)
    (h0 : s.size ≤ 1 ∨ ∃ h : 1 < s.size, (((s[0]'(by omega)).toNat : Int) == 48) = false) :
    Calls Tryz.prog 165 #[.string s, .int .i64 at_] w fun e w' => e = .returned (.agg #[.int .i64 3, .string s, .int .i64 (numV s.data.toList), .int .i64 at_]) ∧ Below w.heap.size w w' := by
  have HD := Lib.hid hd
  clear hd
  rcases h0 with h0 | ⟨h1, h0⟩
  all_goals
    go_enter Tryz.func165, Tryz.ntmps165
    go_wp2_with fail
    refine (span_dig _ _).mono ?_
    rintro e w1 ⟨rfl, hb1⟩
    rw [HD.out]
    go_wp2_with fail
    go_loopw [5] (fun n wr => ∃ k : Nat, k ≤ s.size ∧ wr = w1.iter s k ∧ n = .int .i64 (numV (s.data.toList.take k))) (fun _ wr => s.size - wr.iterPos w1.heap.size)
    case atStart => exact ⟨0, Nat.zero_le _, rfl, rfl⟩
    case round =>
      obtain ⟨k, hk, rfl, rfl⟩ := hrel
      by_cases hlt : k < s.size
      · have hlen : k < s.data.toList.length := by simpa using hlt
        have hb : s.data.toList[k]'hlen = s[k] := by simp [ByteArray.getElem_eq_getElem_data]
        have hmem := dig_of digR _ HD.out (s.data.toList[k]'hlen) (List.getElem_mem hlen)
        have HS := Lib.hid (take_snoc s.data.toList k hlen)
        have hbd := numV_bd k (s.data.toList.take k) (by simp; omega) (fun c hc => dig_of digR _ HD.out c (List.mem_of_mem_take hc))
        have hp := pow_le17 k (by omega)
        rw [hb] at hmem HS
        have hd2 : 48 ≤ ((s[k]'hlt).toNat : Int) ∧ ((s[k]'hlt).toNat : Int) ≤ 57 := by simpa [digR] using hmem
        obtain ⟨hd3, hd4⟩ := hd2
        obtain ⟨hb3, hb4⟩ := hbd
        have hb5 : numV (s.data.toList.take k) ≤ 100000000000000000 := by omega
        clear hp hb4 hmem hb
        have hnx : ∀ ty, (Instr.next (.pointer (some ⟨w1.heap.size, 0, none⟩)) true ty).run Tryz.prog (w1.iter s k) = _ := fun ty => run_next_ascii w1 s k ty hlt (by omega)
        go_wp2_with fail
        go_roundw
        case rel =>
          refine ⟨k + 1, by omega, rfl, ?_⟩
          rw [HS.out, numV_snoc]
        case measure => simp; omega
      · have hnx : ∀ ty, (Instr.next (.pointer (some ⟨w1.heap.size, 0, none⟩)) true ty).run Tryz.prog (w1.iter s k) = _ := fun ty => run_next_end w1 s k ty hlt
        go_wp2_with fail
        refine (clone_any _ _ (by omega)).mono ?_
        rintro e w2 ⟨rfl, hb2⟩
        have hsz := hb1.size
        have hL : Lies w2 w.heap.size 68 #[.int .i64 0, .string ⟨#[]⟩, .int .i64 0, .int .i64 0] :=
          (((Lies.new w 68 _).below hb1 (by simp)).old (.stringIter s k)).below hb2 (by simp [World.iter] at hsz ⊢; omega)
        obtain ⟨⟨c0, c1, c2, c3⟩, f0, f1, f2, f3⟩ := hL.four
        have hB : Below w.heap.size w w2 := ((((Below.refl _ w).alloc (Nat.le_refl _) _).trans (hb1.mono (by simp))).alloc (by simp at hsz; omega) _).trans (hb2.mono (by simp [World.iter] at hsz ⊢; omega))
        have HT := Lib.hid (List.take_of_length_le (l := s.data.toList) (i := k) (by simp; omega))
        go_wp2_with fail
        exact bodyPost_ret (res_tok (p := 4) Tryz.results165 rfl (hL.all _ _ _ _)) rfl ⟨by rw [HT.out], Below.all hB (Nat.le_refl _) _ _ _ _⟩

theorem data_list (s : ByteArray) : s.toList = s.data.toList := by
  have := Lib.extract_toList s 0 s.size
  rw [ByteArray.extract_zero_size] at this
  rw [this]
  exact List.take_of_length_le (by show s.data.toList.length ≤ s.size; rw [Lib.size_eq]; exact Nat.le_refl _)
theorem below_ac {w w1 : World} {o : Obj} (hb : Below (w.alloc o).heap.size (w.alloc o) w1) : Below w.heap.size w w1 :=
  ((Below.refl _ w).alloc (Nat.le_refl _) _).trans (hb.mono (by simp))
/-- What the reader panics with. -/
def noTok (at_ e : Int) : Value := .iface 98 (.agg #[.int .i64 at_, .int .i64 e])
set_option maxHeartbeats 1000000 in
theorem number_char (s : ByteArray) (at_ : Int) (w : World) (hd : run digR s.data.toList < s.data.toList.length) :
    Calls Tryz.prog 165 #[.string s, .int .i64 at_] w fun e w' => e = .panicked [{ v := noTok at_ 10, recovered := false }] ∧ Below w.heap.size w w' := by
  have hd' : run digR s.data.toList < s.size := by simpa using hd
  clear hd
  unfold noTok
  go_enter Tryz.func165, Tryz.ntmps165
  go_wp2_with fail
  refine (span_dig _ _).mono ?_
  rintro e w1 ⟨rfl, hb1⟩
  go_wp2_with fail
  exact ⟨rfl, rfl, below_ac hb1⟩
set_option maxHeartbeats 1000000 in
theorem number_long (s : ByteArray) (at_ : Int) (w : World) (hd : run digR s.data.toList = s.data.toList.length)
    (h0 : 18 < s.size ∨ (s.size ≤ 18 ∧ ∃ h : 1 < s.size, (((s[0]'(by omega)).toNat : Int) == 48) = true)) :
    Calls Tryz.prog 165 #[.string s, .int .i64 at_] w fun e w' => e = .panicked [{ v := noTok at_ 11, recovered := false }] ∧ Below w.heap.size w w' := by
  have HD := Lib.hid hd
  clear hd
  unfold noTok
  rcases h0 with h0 | ⟨h18, h1, h0⟩
  all_goals
    go_enter Tryz.func165, Tryz.ntmps165
    go_wp2_with fail
    refine (span_dig _ _).mono ?_
    rintro e w1 ⟨rfl, hb1⟩
    rw [HD.out]
    go_wp2_with fail
    exact ⟨rfl, rfl, below_ac hb1⟩

theorem word_any (s : ByteArray) (w : World) : Calls Tryz.prog 166 #[.string s] w fun e w' => e = .returned (.bool (wordS s.data.toList)) ∧ w = w' := by
  go_enter Tryz.func166, Tryz.ntmps166
  go_wp2
  all_goals
    go_ret
    refine ⟨ret_bool ?_, rfl⟩
    rw [← data_list]
    simp_all [wordS]

theorem head_eq (s : ByteArray) (h : 0 < s.size) : s.data.toList.head? = some (s[0]'h) := by
  obtain ⟨⟨l⟩⟩ := s
  cases l with
  | nil => simp [ByteArray.size] at h
  | cons a r => rfl
theorem b48 (c : UInt8) : ((c.toNat : Int) == 48) = decide (c = 48) := by
  rw [Bool.eq_iff_iff]
  simp only [beq_iff_eq, decide_eq_true_eq]
  constructor
  · intro h; apply UInt8.toNat_inj.1; simp; omega
  · rintro rfl; rfl

theorem num_good (s : ByteArray) (at_ k n : Int) (w : World) (h : numK s.data.toList = .ok (k, n)) :
    Calls Tryz.prog 165 #[.string s, .int .i64 at_] w fun e w' => e = .returned (.agg #[.int .i64 k, .string s, .int .i64 n, .int .i64 at_]) ∧ Below w.heap.size w w' := by
  unfold numK at h
  have hr := run_le digR s.data.toList
  split at h
  · cases h
  · split at h
    · cases h
    · rename_i h1 h2
      simp only [Except.ok.injEq, Prod.mk.injEq] at h
      obtain ⟨rfl, rfl⟩ := h
      rw [← Lib.size_eq] at h2
      refine number_ok s at_ w (by omega) (by omega) ?_
      by_cases h3 : 1 < s.size
      · refine .inr ⟨h3, ?_⟩
        rw [b48, decide_eq_false]
        intro h4
        exact h2 (.inr ⟨h3, by rw [head_eq s (by omega), h4]⟩)
      · exact .inl (by omega)

theorem num_bad (s : ByteArray) (at_ x : Int) (w : World) (h : numK s.data.toList = .error x) :
    Calls Tryz.prog 165 #[.string s, .int .i64 at_] w fun e w' => e = .panicked [{ v := noTok at_ x, recovered := false }] ∧ Below w.heap.size w w' := by
  unfold numK at h
  have hr := run_le digR s.data.toList
  split at h
  · rename_i h1
    cases h
    exact number_char s at_ w h1
  · rename_i h1
    split at h
    · rename_i h2
      cases h
      rw [← Lib.size_eq] at h2
      refine number_long s at_ w (by omega) ?_
      by_cases h18 : 18 < s.size
      · exact .inl h18
      · obtain ⟨h3, h4⟩ : 1 < s.size ∧ s.data.toList.head? = some 48 := h2.resolve_left h18
        refine .inr ⟨by omega, h3, ?_⟩
        rw [head_eq s (by omega)] at h4
        rw [b48, decide_eq_true_eq]
        exact Option.some.inj h4
    · cases h

set_option maxHeartbeats 1000000 in
theorem run_num (s : ByteArray) (at_ k n : Int) (w : World) (h0 : 0 < run digR s.data.toList) (h : numK s.data.toList = .ok (k, n)) :
    Calls Tryz.prog 140 #[.string s, .int .i64 at_] w fun e w' => e = .returned (.agg #[.int .i64 k, .string s, .int .i64 n, .int .i64 at_]) ∧ Below w.heap.size w w' := by
  have HH := Lib.hid h
  clear h
  go_enter Tryz.func140, Tryz.ntmps140
  go_wp2_with fail
  refine (span_dig _ _).mono ?_
  rintro e w1 ⟨rfl, hb1⟩
  go_wp2_with fail
  refine (num_good s at_ k n _ HH.out).mono ?_
  rintro e w2 ⟨rfl, hb2⟩
  have hsz := hb1.size
  have hL : Lies w2 w.heap.size 68 #[.int .i64 0, .string ⟨#[]⟩, .int .i64 0, .int .i64 0] :=
    ((Lies.new w 68 _).below hb1 (by simp)).below hb2 (by simp at hsz ⊢; omega)
  obtain ⟨⟨c0, c1, c2, c3⟩, f0, f1, f2, f3⟩ := hL.four
  have hB : Below w.heap.size w w2 := (below_ac hb1).trans (hb2.mono (by simp at hsz ⊢; omega))
  go_wp2_with fail
  exact bodyPost_ret (res_tok (p := 4) Tryz.results140 rfl (hL.all _ _ _ _)) rfl ⟨rfl, Below.all hB (Nat.le_refl _) _ _ _ _⟩

set_option maxHeartbeats 1000000 in
theorem run_num_bad (s : ByteArray) (at_ x : Int) (w : World) (h0 : 0 < run digR s.data.toList) (h : numK s.data.toList = .error x) :
    Calls Tryz.prog 140 #[.string s, .int .i64 at_] w fun e w' => e = .panicked [{ v := noTok at_ x, recovered := false }] ∧ Below w.heap.size w w' := by
  have HH := Lib.hid h
  clear h
  go_enter Tryz.func140, Tryz.ntmps140
  go_wp2_with fail
  refine (span_dig _ _).mono ?_
  rintro e w1 ⟨rfl, hb1⟩
  go_wp2_with fail
  refine (num_bad s at_ x _ HH.out).mono ?_
  rintro e w2 ⟨rfl, hb2⟩
  have hsz := hb1.size
  have hB : Below w.heap.size w w2 := (below_ac hb1).trans (hb2.mono (by simp at hsz ⊢; omega))
  go_wp2_with fail
  exact ⟨rfl, rfl, hB⟩

set_option maxHeartbeats 1000000 in
theorem run_long (s : ByteArray) (at_ : Int) (w : World) (h0 : ¬ 0 < run digR s.data.toList) (h : 16 < s.size) :
    Calls Tryz.prog 140 #[.string s, .int .i64 at_] w fun e w' => e = .panicked [{ v := noTok at_ 11, recovered := false }] ∧ Below w.heap.size w w' := by
  unfold noTok
  go_enter Tryz.func140, Tryz.ntmps140
  go_wp2_with fail
  refine (span_dig _ _).mono ?_
  rintro e w1 ⟨rfl, hb1⟩
  go_wp2_with fail
  exact ⟨rfl, rfl, below_ac hb1⟩

set_option maxHeartbeats 1000000 in
theorem run_word (s : ByteArray) (at_ : Int) (w : World) (h0 : ¬ 0 < run digR s.data.toList) (h : s.size ≤ 16) (hw : wordS s.data.toList = true) :
    Calls Tryz.prog 140 #[.string s, .int .i64 at_] w fun e w' => e = .returned (.agg #[.int .i64 4, .string s, .int .i64 0, .int .i64 at_]) ∧ Below w.heap.size w w' := by
  have HW := Lib.hid hw
  clear hw
  go_enter Tryz.func140, Tryz.ntmps140
  go_wp2_with fail
  refine (span_dig _ _).mono ?_
  rintro e w1 ⟨rfl, hb1⟩
  go_wp2_with fail
  refine (word_any s _).mono ?_
  rintro e w' ⟨rfl, rfl⟩
  rw [HW.out]
  go_wp2_with fail
  refine (clone_any s _ (by omega)).mono ?_
  rintro e w2 ⟨rfl, hb2⟩
  have hsz := hb1.size
  have hL : Lies w2 w.heap.size 68 #[.int .i64 0, .string ⟨#[]⟩, .int .i64 0, .int .i64 0] :=
    ((Lies.new w 68 _).below hb1 (by simp)).below hb2 (by simp at hsz ⊢; omega)
  obtain ⟨⟨c0, c1, c2, c3⟩, f0, f1, f2, f3⟩ := hL.four
  have hB : Below w.heap.size w w2 := (below_ac hb1).trans (hb2.mono (by simp at hsz ⊢; omega))
  go_wp2_with fail
  exact bodyPost_ret (res_tok (p := 4) Tryz.results140 rfl (hL.all _ _ _ _)) rfl ⟨rfl, Below.all hB (Nat.le_refl _) _ _ _ _⟩

set_option maxHeartbeats 1000000 in
theorem run_name (s : ByteArray) (at_ k : Int) (w : World) (h0 : ¬ 0 < run digR s.data.toList) (h : s.size ≤ 16) (hw : wordS s.data.toList = false)
    (hk : (0 < run lowR s.data.toList ∧ k = 1) ∨ (¬ 0 < run lowR s.data.toList ∧ k = 2)) :
    Calls Tryz.prog 140 #[.string s, .int .i64 at_] w fun e w' => e = .returned (.agg #[.int .i64 k, .string s, .int .i64 0, .int .i64 at_]) ∧ Below w.heap.size w w' := by
  have HW := Lib.hid hw
  clear hw
  rcases hk with ⟨hk, rfl⟩ | ⟨hk, rfl⟩
  all_goals
    go_enter Tryz.func140, Tryz.ntmps140
    go_wp2_with fail
    refine (span_dig _ _).mono ?_
    rintro e w1 ⟨rfl, hb1⟩
    go_wp2_with fail
    refine (word_any s _).mono ?_
    rintro e w' ⟨rfl, rfl⟩
    rw [HW.out]
    go_wp2_with fail
    refine (span_low _ _).mono ?_
    rintro e w3 ⟨rfl, hb3⟩
    go_wp2_with fail
    refine (clone_any s _ (by omega)).mono ?_
    rintro e w2 ⟨rfl, hb2⟩
    have hsz := hb1.size
    have hsz3 := hb3.size
    have hL : Lies w2 w.heap.size 68 #[.int .i64 0, .string ⟨#[]⟩, .int .i64 0, .int .i64 0] :=
      (((Lies.new w 68 _).below hb1 (by simp)).below hb3 (by simp at hsz ⊢; omega)).below hb2 (by simp at hsz ⊢; omega)
    obtain ⟨⟨c0, c1, c2, c3⟩, f0, f1, f2, f3⟩ := hL.four
    have hB : Below w.heap.size w w2 := ((below_ac hb1).trans (hb3.mono (by simp at hsz ⊢; omega))).trans (hb2.mono (by simp at hsz ⊢; omega))
    go_wp2_with fail
    exact bodyPost_ret (res_tok (p := 4) Tryz.results140 rfl (hL.all _ _ _ _)) rfl ⟨rfl, Below.all hB (Nat.le_refl _) _ _ _ _⟩

theorem run_good (s : ByteArray) (at_ k n : Int) (w : World) (h : runK s.data.toList = .ok (k, n)) :
    Calls Tryz.prog 140 #[.string s, .int .i64 at_] w fun e w' => e = .returned (.agg #[.int .i64 k, .string s, .int .i64 n, .int .i64 at_]) ∧ Below w.heap.size w w' := by
  unfold runK at h
  split at h
  · rename_i h0
    exact run_num s at_ k n w h0 h
  · rename_i h0
    split at h
    · cases h
    · rename_i h1
      rw [← Lib.size_eq] at h1
      split at h
      · rename_i h2
        cases h
        exact run_word s at_ w h0 (by omega) h2
      · rename_i h2
        have h2' : wordS s.data.toList = false := by simpa using h2
        split at h
        · rename_i h3
          cases h
          exact run_name s at_ 1 w h0 (by omega) h2' (.inl ⟨h3, rfl⟩)
        · rename_i h3
          cases h
          exact run_name s at_ 2 w h0 (by omega) h2' (.inr ⟨h3, rfl⟩)
theorem run_bad (s : ByteArray) (at_ x : Int) (w : World) (h : runK s.data.toList = .error x) :
    Calls Tryz.prog 140 #[.string s, .int .i64 at_] w fun e w' => e = .panicked [{ v := noTok at_ x, recovered := false }] ∧ Below w.heap.size w w' := by
  unfold runK at h
  split at h
  · rename_i h0
    exact run_num_bad s at_ x w h0 h
  · rename_i h0
    split at h
    · rename_i h1
      rw [← Lib.size_eq] at h1
      cases h
      exact run_long s at_ w h0 h1
    · split at h
      · cases h
      · split at h <;> cases h
end Lx
end Go.Proofs.YteabbkhlgnoliaaGreatDoor
namespace Go.Proofs.YteabbkhlgnoliaaGreatDoor
open Go.RowKit
namespace Lx
set_option maxRecDepth 100000
/-- The cells of the package's table of signs. -/
def signCells : Array Value := (signsS.map fun g => Value.string ⟨g.toArray⟩).toArray
/-- The table of signs, in its variable. -/
def Signs (w : World) : Prop := ∃ t fr, w.heap[0]? = some (.cells signCells t fr)
theorem Signs.pos {w : World} (h : Signs w) : 0 < w.heap.size := by
  obtain ⟨t, fr, h⟩ := h
  exact (Array.getElem?_eq_some_iff.1 h).1
theorem Signs.below {w w' : World} {B : Nat} (h : Signs w) (hb : Below B w w') (hB : 0 < B) : Signs w' := by
  obtain ⟨t, fr, h⟩ := h
  exact ⟨t, fr, (hb.block 0 hB).trans h⟩
theorem sign_at (k : Nat) (h : k < 15) (w : World) : (Instr.index 162 (.agg signCells) (.int .i64 k)).run Tryz.prog w = .ok (.string ⟨(signsS.getD k []).toArray⟩) w := by
  have i0 : (Instr.index 162 (.agg signCells) (.int .i64 0)).run Tryz.prog w = .ok (.string ⟨(signsS.getD 0 []).toArray⟩) w := by kernel_rfl
  have i1 : (Instr.index 162 (.agg signCells) (.int .i64 1)).run Tryz.prog w = .ok (.string ⟨(signsS.getD 1 []).toArray⟩) w := by kernel_rfl
  have i2 : (Instr.index 162 (.agg signCells) (.int .i64 2)).run Tryz.prog w = .ok (.string ⟨(signsS.getD 2 []).toArray⟩) w := by kernel_rfl
  have i3 : (Instr.index 162 (.agg signCells) (.int .i64 3)).run Tryz.prog w = .ok (.string ⟨(signsS.getD 3 []).toArray⟩) w := by kernel_rfl
  have i4 : (Instr.index 162 (.agg signCells) (.int .i64 4)).run Tryz.prog w = .ok (.string ⟨(signsS.getD 4 []).toArray⟩) w := by kernel_rfl
  have i5 : (Instr.index 162 (.agg signCells) (.int .i64 5)).run Tryz.prog w = .ok (.string ⟨(signsS.getD 5 []).toArray⟩) w := by kernel_rfl
  have i6 : (Instr.index 162 (.agg signCells) (.int .i64 6)).run Tryz.prog w = .ok (.string ⟨(signsS.getD 6 []).toArray⟩) w := by kernel_rfl
  have i7 : (Instr.index 162 (.agg signCells) (.int .i64 7)).run Tryz.prog w = .ok (.string ⟨(signsS.getD 7 []).toArray⟩) w := by kernel_rfl
  have i8 : (Instr.index 162 (.agg signCells) (.int .i64 8)).run Tryz.prog w = .ok (.string ⟨(signsS.getD 8 []).toArray⟩) w := by kernel_rfl
  have i9 : (Instr.index 162 (.agg signCells) (.int .i64 9)).run Tryz.prog w = .ok (.string ⟨(signsS.getD 9 []).toArray⟩) w := by kernel_rfl
  have i10 : (Instr.index 162 (.agg signCells) (.int .i64 10)).run Tryz.prog w = .ok (.string ⟨(signsS.getD 10 []).toArray⟩) w := by kernel_rfl
  have i11 : (Instr.index 162 (.agg signCells) (.int .i64 11)).run Tryz.prog w = .ok (.string ⟨(signsS.getD 11 []).toArray⟩) w := by kernel_rfl
  have i12 : (Instr.index 162 (.agg signCells) (.int .i64 12)).run Tryz.prog w = .ok (.string ⟨(signsS.getD 12 []).toArray⟩) w := by kernel_rfl
  have i13 : (Instr.index 162 (.agg signCells) (.int .i64 13)).run Tryz.prog w = .ok (.string ⟨(signsS.getD 13 []).toArray⟩) w := by kernel_rfl
  have i14 : (Instr.index 162 (.agg signCells) (.int .i64 14)).run Tryz.prog w = .ok (.string ⟨(signsS.getD 14 []).toArray⟩) w := by kernel_rfl
  match k, h with
  | 0, _ => exact i0
  | 1, _ => exact i1
  | 2, _ => exact i2
  | 3, _ => exact i3
  | 4, _ => exact i4
  | 5, _ => exact i5
  | 6, _ => exact i6
  | 7, _ => exact i7
  | 8, _ => exact i8
  | 9, _ => exact i9
  | 10, _ => exact i10
  | 11, _ => exact i11
  | 12, _ => exact i12
  | 13, _ => exact i13
  | 14, _ => exact i14

theorem span_ld_from (s : ByteArray) (k : Nat) (w : World) : Calls Tryz.prog 99 #[.string (s.extract k s.size), .func (.func 139) #[] #[]] w fun e w' => e = .returned (.int .i64 (run ldR (s.data.toList.drop k))) ∧ Below w.heap.size w w' := by
  have h := span_ld (s.extract k s.size) w
  rw [Lib.extract_to_end] at h
  exact h

def SignPost (l : List UInt8) (at_ : Int) (e : Ending) : Prop :=
  (∀ g, signOf l = some g → e = .returned (.agg #[.int .i64 5, .string ⟨g.toArray⟩, .int .i64 0, .int .i64 at_])) ∧
  (signOf l = none → e = .panicked [{ v := noTok at_ 10, recovered := false }])

theorem prefix_from (s : ByteArray) (k m : Nat) (w : World) : Calls Tryz.prog 141 #[.string (s.extract k s.size), .string ⟨(signsS.getD m []).toArray⟩] w fun e w' =>
    e = .returned (.bool (Lib.hasPrefix (s.data.toList.drop k) (signsS.getD m []))) ∧ w = w' := by
  refine (Tryz.strings_HasPrefix _ _ w).mono ?_
  rintro e w' ⟨rfl, rfl⟩
  rw [Lib.extract_to_end]
  exact ⟨rfl, rfl⟩

set_option maxHeartbeats 1000000 in
theorem token_sign (s : ByteArray) (k : Nat) (w : World) (hk : k ≤ s.size) (hg : Signs w) (h0 : ¬ 0 < run ldR (s.data.toList.drop k)) :
    Calls Tryz.prog 101 #[.string s, .int .i64 k] w fun e w' => SignPost (s.data.toList.drop k) k e ∧ Below w.heap.size w w' := by
  have hpos := hg.pos
  go_enter Tryz.func101, Tryz.ntmps101
  go_wp2_with fail
  refine (span_ld_from _ _ _).mono ?_
  rintro e w1 ⟨rfl, hb1⟩
  have hg1 : Signs w1 := (hg.below ((Below.refl _ w).alloc (Nat.le_refl _) _) hpos).below hb1 (by simp)
  obtain ⟨tt, fr, hg1'⟩ := hg1
  have hL : Lies w1 w.heap.size 68 #[.int .i64 0, .string ⟨#[]⟩, .int .i64 0, .int .i64 0] := (Lies.new w 68 _).below hb1 (by simp)
  have hB : Below w.heap.size w w1 := below_ac hb1
  clear hb1 hg
  go_wp2_with (refine wpList_load_row rfl 162 _ rfl 0 rfl tt _ fr _ hg1' Tryz.underlying162 rfl (by kernel_rfl) ?_)
  clear hg1'
  go_loop [22] (fun v => ∃ m : Nat, m ≤ 15 ∧ v = .int .i64 m ∧ Hid (∀ j, j < m → Lib.hasPrefix (s.data.toList.drop k) (signsS.getD j []) = false)) (fun v => 15 - (intOf v).toNat)
  case atStart => exact ⟨0, by omega, rfl, fun j hj => by omega⟩
  case round =>
    obtain ⟨m, hm, rfl, HF⟩ := hrel
    by_cases hlt : m < 15
    · have hix := sign_at m hlt w1
      cases hp : Lib.hasPrefix (s.data.toList.drop k) (signsS.getD m [])
      · have HP := Lib.hid hp
        clear hp
        go_wp2_with fail
        refine (prefix_from _ _ _ _).mono ?_
        rintro e w' ⟨rfl, rfl⟩
        rw [HP.out]
        go_wp2_with fail
        go_round
        case rel =>
          refine ⟨m + 1, by omega, by go_num, fun j hj => ?_⟩
          rcases Nat.lt_or_ge j m with h1 | h1
          · exact HF.out j h1
          · obtain rfl : j = m := by omega
            exact HP.out
        case measure => simp [intOf]; omega
      · have HP := Lib.hid hp
        clear hp
        obtain ⟨⟨c0, c1, c2, c3⟩, f0, f1, f2, f3⟩ := hL.four
        go_wp2_with fail
        refine (prefix_from _ _ _ _).mono ?_
        rintro e w' ⟨rfl, rfl⟩
        rw [HP.out]
        go_wp2_with fail
        refine bodyPost_ret (res_tok (p := 4) Tryz.results101 rfl (hL.all _ _ _ _)) rfl ⟨⟨fun g hg => ?_, fun hg => ?_⟩, Below.all hB (Nat.le_refl _) _ _ _ _⟩
        · have := find_first (fun g => Lib.hasPrefix (s.data.toList.drop k) g) [] signsS m hlt HF.out HP.out
          unfold signOf at hg
          rw [this] at hg
          rw [← Option.some.inj hg, List.getD_eq_getElem?_getD]
        · have := find_first (fun g => Lib.hasPrefix (s.data.toList.drop k) g) [] signsS m hlt HF.out HP.out
          unfold signOf at hg
          rw [this] at hg
          cases hg
    · go_wp2_with fail
      refine ⟨rfl, ⟨fun g hg => ?_, fun hg => rfl⟩, hB⟩
      have := find_none (fun g => Lib.hasPrefix (s.data.toList.drop k) g) [] signsS (fun j hj => HF.out j (by have h15 : signsS.length = 15 := rfl; omega))
      unfold signOf at hg
      rw [this] at hg
      cases hg

theorem toBytes (s : ByteArray) : (⟨s.data.toList.toArray⟩ : ByteArray) = s := by
  cases s; simp
theorem cut_twice (s : ByteArray) (k n : Nat) : ((s.extract k s.size).extract 0 n).data.toList = (s.data.toList.drop k).take n := by
  rw [Lib.extract_data, Lib.extract_to_end]
  simp
theorem cut_eq (s : ByteArray) (k n : Nat) : (s.extract k s.size).extract 0 n = ⟨((s.data.toList.drop k).take n).toArray⟩ := by
  rw [← cut_twice, toBytes]

set_option maxHeartbeats 1000000 in
theorem token_run (s : ByteArray) (k : Nat) (kd n : Int) (w : World) (hk : k ≤ s.size) (h0 : 0 < run ldR (s.data.toList.drop k)) (h : runK ((s.data.toList.drop k).take (run ldR (s.data.toList.drop k))) = .ok (kd, n)) :
    Calls Tryz.prog 101 #[.string s, .int .i64 k] w fun e w' =>
      e = .returned (.agg #[.int .i64 kd, .string ⟨((s.data.toList.drop k).take (run ldR (s.data.toList.drop k))).toArray⟩, .int .i64 n, .int .i64 k]) ∧ Below w.heap.size w w' := by
  have hle := run_le ldR (s.data.toList.drop k)
  have hle2 : run ldR (s.data.toList.drop k) ≤ s.size - k := by simpa using hle
  clear hle
  have HR := fun w => run_good ((s.extract k s.size).extract 0 (run ldR (s.data.toList.drop k))) k kd n w (by rw [cut_twice]; exact h)
  have HH := Lib.hid HR
  clear HR h
  go_enter Tryz.func101, Tryz.ntmps101
  go_wp2_with fail
  refine (span_ld_from _ _ _).mono ?_
  rintro e w1 ⟨rfl, hb1⟩
  go_wp2_with fail
  refine (HH.out _).mono ?_
  rintro e w2 ⟨rfl, hb2⟩
  have hsz := hb1.size
  have hL : Lies w2 w.heap.size 68 #[.int .i64 0, .string ⟨#[]⟩, .int .i64 0, .int .i64 0] :=
    ((Lies.new w 68 _).below hb1 (by simp)).below hb2 (by simp at hsz ⊢; omega)
  obtain ⟨⟨c0, c1, c2, c3⟩, f0, f1, f2, f3⟩ := hL.four
  have hB : Below w.heap.size w w2 := (below_ac hb1).trans (hb2.mono (by simp at hsz ⊢; omega))
  go_wp2_with fail
  exact bodyPost_ret (res_tok (p := 4) Tryz.results101 rfl (hL.all _ _ _ _)) rfl ⟨by rw [cut_eq], Below.all hB (Nat.le_refl _) _ _ _ _⟩

set_option maxHeartbeats 1000000 in
theorem token_run_bad (s : ByteArray) (k : Nat) (x : Int) (w : World) (hk : k ≤ s.size) (h0 : 0 < run ldR (s.data.toList.drop k)) (h : runK ((s.data.toList.drop k).take (run ldR (s.data.toList.drop k))) = .error x) :
    Calls Tryz.prog 101 #[.string s, .int .i64 k] w fun e w' => e = .panicked [{ v := noTok k x, recovered := false }] ∧ Below w.heap.size w w' := by
  have hle := run_le ldR (s.data.toList.drop k)
  have hle2 : run ldR (s.data.toList.drop k) ≤ s.size - k := by simpa using hle
  clear hle
  have HR := fun w => run_bad ((s.extract k s.size).extract 0 (run ldR (s.data.toList.drop k))) k x w (by rw [cut_twice]; exact h)
  have HH := Lib.hid HR
  clear HR h
  go_enter Tryz.func101, Tryz.ntmps101
  go_wp2_with fail
  refine (span_ld_from _ _ _).mono ?_
  rintro e w1 ⟨rfl, hb1⟩
  go_wp2_with fail
  refine (HH.out _).mono ?_
  rintro e w2 ⟨rfl, hb2⟩
  have hsz := hb1.size
  have hB : Below w.heap.size w w2 := (below_ac hb1).trans (hb2.mono (by simp at hsz ⊢; omega))
  go_wp2_with fail
  exact ⟨rfl, rfl, hB⟩

theorem token_good (s : ByteArray) (k : Nat) (kd n : Int) (t : List UInt8) (w : World) (hk : k ≤ s.size) (hg : Signs w) (h : tokK (s.data.toList.drop k) = .ok (kd, n, t)) :
    Calls Tryz.prog 101 #[.string s, .int .i64 k] w fun e w' => e = .returned (.agg #[.int .i64 kd, .string ⟨t.toArray⟩, .int .i64 n, .int .i64 k]) ∧ Below w.heap.size w w' := by
  unfold tokK at h
  split at h
  · rename_i h0
    split at h
    · rename_i k' n' h1
      simp only [Except.ok.injEq, Prod.mk.injEq] at h
      obtain ⟨rfl, rfl, rfl⟩ := h
      exact token_run s k _ _ w hk h0 h1
    · cases h
  · rename_i h0
    split at h
    · rename_i g h1
      simp only [Except.ok.injEq, Prod.mk.injEq] at h
      obtain ⟨rfl, rfl, rfl⟩ := h
      refine (token_sign s k w hk hg h0).mono ?_
      rintro e w' ⟨he, hb⟩
      exact ⟨he.1 _ h1, hb⟩
    · cases h
theorem token_bad (s : ByteArray) (k : Nat) (x : Int) (w : World) (hk : k ≤ s.size) (hg : Signs w) (h : tokK (s.data.toList.drop k) = .error x) :
    Calls Tryz.prog 101 #[.string s, .int .i64 k] w fun e w' => e = .panicked [{ v := noTok k x, recovered := false }] ∧ Below w.heap.size w w' := by
  unfold tokK at h
  split at h
  · rename_i h0
    split at h
    · cases h
    · rename_i e1 h1
      cases h
      exact token_run_bad s k _ w hk h0 h1
  · rename_i h0
    split at h
    · cases h
    · rename_i h1
      cases h
      refine (token_sign s k w hk hg h0).mono ?_
      rintro e w' ⟨he, hb⟩
      exact ⟨he.2 h1, hb⟩
end Lx
end Go.Proofs.YteabbkhlgnoliaaGreatDoor
namespace Go.Proofs.YteabbkhlgnoliaaGreatDoor
namespace Lx
set_option maxRecDepth 100000
structure Tok where
  kind : Int
  text : List UInt8
  n : Int
  place : Int
deriving DecidableEq
def Tok.cells (t : Tok) : List Value := [.int .i64 t.kind, .string ⟨t.text.toArray⟩, .int .i64 t.n, .int .i64 t.place]
def cellsOf (l : List Tok) : List Value := l.flatMap Tok.cells
theorem cellsOf_length (l : List Tok) : (cellsOf l).length = l.length * 4 := by
  induction l with
  | nil => rfl
  | cons a r ih => simp only [cellsOf, List.flatMap_cons, List.length_append, List.length_cons] at ih ⊢; rw [ih]; simp [Tok.cells]; omega
theorem cellsOf_snoc (l : List Tok) (t : Tok) : cellsOf (l ++ [t]) = cellsOf l ++ t.cells := by
  simp [cellsOf, List.flatMap_append]

/-- The tokens from a place on, the text standing at no blank. -/
def scan : Nat → List UInt8 → Nat → Except (Int × Int) (List Tok)
  | 0, _, _ => .ok []
  | f + 1, l, k =>
    if l = [] then .ok [] else
    match tokK l with
    | .error e => .error (k, e)
    | .ok (kd, n, t) =>
      match scan f ((l.drop t.length).drop (run blkR (l.drop t.length))) (k + t.length + run blkR (l.drop t.length)) with
      | .error e => .error e
      | .ok r => .ok (⟨kd, t, n, k⟩ :: r)
def allK (l : List UInt8) : Except (Int × Int) (List Tok) := scan (l.length + 1) (l.drop (run blkR l)) (run blkR l)
def glue (acc : List Tok) : Except (Int × Int) (List Tok) → Except (Int × Int) (List Tok)
  | .ok r => .ok (acc ++ r)
  | .error e => .error e

theorem scan_end (f k : Nat) : scan f [] k = .ok [] := by
  cases f <;> simp [scan]
theorem scan_bad {f k : Nat} {l : List UInt8} {e : Int} (hl : l ≠ []) (h : tokK l = .error e) : scan (f + 1) l k = .error (k, e) := by
  simp [scan, hl, h]
theorem scan_good {f k : Nat} {l t : List UInt8} {kd n : Int} (acc : List Tok) (hl : l ≠ []) (h : tokK l = .ok (kd, n, t)) :
    glue acc (scan (f + 1) l k) = glue (acc ++ [⟨kd, t, n, k⟩]) (scan f ((l.drop t.length).drop (run blkR (l.drop t.length))) (k + t.length + run blkR (l.drop t.length))) := by
  simp only [scan, hl, if_false, h]
  cases scan f ((l.drop t.length).drop (run blkR (l.drop t.length))) (k + t.length + run blkR (l.drop t.length)) <;> simp [glue]

theorem signs_pos : ∀ g ∈ signsS, 0 < g.length := by decide
/-- A token's text is what stands there, and it is not empty. -/
theorem tok_text {l t : List UInt8} {kd n : Int} (h : tokK l = .ok (kd, n, t)) : 0 < t.length ∧ t.length ≤ l.length ∧ l.take t.length = t := by
  unfold tokK at h
  have hr := run_le ldR l
  split at h
  · rename_i h0
    split at h
    · simp only [Except.ok.injEq, Prod.mk.injEq] at h
      obtain ⟨_, _, rfl⟩ := h
      simp only [List.length_take]
      refine ⟨by omega, by omega, by congr 1; omega⟩
    · cases h
  · split at h
    · rename_i g h1
      simp only [Except.ok.injEq, Prod.mk.injEq] at h
      obtain ⟨_, _, rfl⟩ := h
      have hp := List.find?_some h1
      have hm := signs_pos _ (List.mem_of_find?_eq_some h1)
      have hpre : g <+: l := List.isPrefixOf_iff_prefix.1 hp
      exact ⟨hm, hpre.length_le, (List.prefix_iff_eq_take.1 hpre).symm⟩
    · cases h
theorem scan_step {l : List UInt8} {acc : List Tok} {k f : Nat} {kd n : Int} {t : List UInt8} (hlt : k < l.length) (hf : l.length < k + (f + 1)) (ha : acc.length ≤ k) (h : tokK (l.drop k) = .ok (kd, n, t))
    (hs : allK l = glue acc (scan (f + 1) (l.drop k) k)) :
    k + t.length ≤ l.length ∧ k + t.length + run blkR (l.drop (k + t.length)) ≤ l.length ∧ l.length < k + t.length + run blkR (l.drop (k + t.length)) + f ∧
      (acc ++ [(⟨kd, t, n, k⟩ : Tok)]).length ≤ k + t.length + run blkR (l.drop (k + t.length)) ∧
      allK l = glue (acc ++ [⟨kd, t, n, k⟩]) (scan f (l.drop (k + t.length + run blkR (l.drop (k + t.length)))) (k + t.length + run blkR (l.drop (k + t.length)))) := by
  obtain ⟨h1, h2, _⟩ := tok_text h
  have hr := run_le blkR (l.drop (k + t.length))
  simp only [List.length_drop] at h2 hr
  refine ⟨by omega, by omega, by omega, by simp; omega, ?_⟩
  rw [hs, scan_good acc (by intro e; have := congrArg List.length e; simp at this; omega) h]
  simp only [List.drop_drop, Nat.add_assoc]
end Lx
end Go.Proofs.YteabbkhlgnoliaaGreatDoor
namespace Go.Proofs.YteabbkhlgnoliaaGreatDoor
open Go.RowKit
namespace Lx
set_option maxRecDepth 100000
theorem own_below {w w' : World} {base : Nat} {e : TypeId} {size : Nat} {v : Value} {n : Nat} {xs : List Value} {B : Nat} (h : w.ownsRow base e size v n xs) (hb : Below B w w') (hB : w.heap.size ≤ B) : w'.ownsRow base e size v n xs := by
  obtain ⟨h1, h2⟩ := h
  refine ⟨h1, ?_⟩
  rcases h2 with h2 | ⟨g, cap, cur, hv, hg, hh, r⟩
  · exact .inl h2
  · have hlt : g < w.heap.size := (Array.getElem?_eq_some_iff.1 hh).1
    exact .inr ⟨g, cap, cur, hv, hg, (hb.block g (by omega)).trans hh, r⟩
theorem Lies.grown {w w' : World} {g : Nat} {t : TypeId} {cs : Array Value} {row : Option Nat} (h : Lies w g t cs) (hb : w.grownBy w' row) (hg : some g ≠ row) : Lies w' g t cs := (hb.block g h.lt hg).trans h

theorem new_cells (w : World) (t : TypeId) (cs : List Value) (g : Nat) (hg : g = w.heap.size) : ∀ (j : Nat) (u : Value), cs[j]? = some u → (w.alloc (.cells cs.toArray t)).cell? ((⟨g, 0, none⟩ : Addr).add j) = some u := by
  intro j u hu
  subst hg
  have hadd : (⟨w.heap.size, 0, none⟩ : Addr).add j = ⟨w.heap.size, j, none⟩ := by unfold Addr.add; split <;> simp_all
  rw [hadd, (Lies.new w t cs.toArray).cell j]
  simpa using hu
theorem info33 : (Tryz.prog.info? 68).map (fun i => (i.zero, i.size, i.bytes)) = some (some (.agg #[.int .i64 0, .string ⟨#[]⟩, .int .i64 0, .int .i64 0]), 4, 40) := by kernel_rfl

def TokensPost (B : Nat) (w : World) (r : Except (Int × Int) (List Tok)) (e : Ending) (w' : World) : Prop :=
  (∀ ts, r = .ok ts → ∃ v, e = .returned v ∧ w'.ownsRow B 68 4 v ts.length (cellsOf ts)) ∧
  (∀ p x, r = .error (p, x) → e = .panicked [{ v := noTok p x, recovered := false }]) ∧ Below B w w'

theorem span_blk_from (s : ByteArray) (k : Nat) (w : World) : Calls Tryz.prog 99 #[.string (s.extract k s.size), .func (.func 100) #[] #[]] w fun e w' => e = .returned (.int .i64 (run blkR (s.data.toList.drop k))) ∧ Below w.heap.size w w' := by
  have h := span_blk (s.extract k s.size) w
  rw [Lib.extract_to_end] at h
  exact h

set_option maxHeartbeats 2000000 in
theorem tokens_any (s : ByteArray) (w : World) (hs : s.size ≤ 60000) (hg : Signs w) :
    Calls Tryz.prog 65 #[.string s] w fun e w' => TokensPost w.heap.size w (allK s.data.toList) e w' := by
  have hpos := hg.pos
  have hl0 := Lib.hid (Lib.size_eq s)
  have hr0 := run_le blkR s.data.toList
  rw [← hl0.out] at hr0
  go_enter Tryz.func65, Tryz.ntmps65
  go_wp2_with fail
  refine (span_blk _ _).mono ?_
  rintro e w1 ⟨rfl, hb1⟩
  go_wp2_with fail
  go_loopw [3, 4] (fun v a wr => ∃ (k f : Nat) (acc : List Tok), k ≤ s.size ∧ a = .int .i64 k ∧ s.size < k + f ∧ acc.length ≤ k ∧ wr.ownsRow w.heap.size 68 4 v acc.length (cellsOf acc) ∧ Below w.heap.size w wr ∧ Hid (allK s.data.toList = glue acc (scan f (s.data.toList.drop k) k))) (fun _ a _ => s.size - (intOf a).toNat)
  case atStart =>
    refine ⟨run blkR s.data.toList, s.size + 1, [], hr0, rfl, by omega, by simp, World.ownsRow_nil _ _ _ _, hb1, ?_⟩
    show allK s.data.toList = _
    unfold allK
    rw [← hl0.out]
    cases scan (s.size + 1) (s.data.toList.drop (run blkR s.data.toList)) (run blkR s.data.toList) <;> simp [glue]
  case round =>
    obtain ⟨k, f, acc, hk, rfl, hf, ha, hown, hbw, HS⟩ := hrel
    have hgr : Signs wr := hg.below hbw hpos
    have hbs := hbw.size
    by_cases hlt : k < s.size
    · obtain ⟨f, rfl⟩ : ∃ f', f = f' + 1 := ⟨f - 1, by omega⟩
      cases htk : tokK (s.data.toList.drop k) with
      | error x =>
        have HB := Lib.hid (token_bad s k x wr hk hgr htk)
        have HE := Lib.hid (scan_bad (f := f) (k := k) (by intro e; have := congrArg List.length e; simp at this; omega) htk)
        clear htk
        go_wp2_with fail
        refine HB.out.mono ?_
        rintro e w2 ⟨rfl, hb2⟩
        go_wp2_with fail
        refine ⟨rfl, fun ts h => ?_, fun p y h => ?_, hbw.trans (hb2.mono hbs)⟩
        · rw [HS.out, HE.out] at h; cases h
        · rw [HS.out, HE.out] at h
          simp only [glue, Except.error.injEq, Prod.mk.injEq] at h
          rw [← h.1, ← h.2]
      | ok r =>
        obtain ⟨kd, n, t⟩ := r
        have HB := Lib.hid (token_good s k kd n t wr hk hgr htk)
        have hst := scan_step (l := s.data.toList) (by rw [← hl0.out]; exact hlt) (by rw [← hl0.out]; omega) ha htk HS.out
        rw [← hl0.out] at hst
        obtain ⟨s1, s2, s3, s4, s5⟩ := hst
        have HS5 := Lib.hid s5
        have ht1 := (tok_text htk).1
        clear htk s5 HS
        go_wp2_with fail
        refine HB.out.mono ?_
        rintro e w2 ⟨rfl, hb2⟩
        have hown2 := own_below hown hb2 (Nat.le_refl _)
        have hsz2 := hb2.size
        obtain ⟨i0, hi, hz0, hz1, hz2⟩ := info_parts info33
        clear hb1 hr0 HB
        go_wp2_with (at_builtin; refine wpList_append_own _ rfl _ _ 58 rfl w.heap.size 68 i0 _ 4 40 Tryz.underlying58 hi hz0 hz1 hz2 rfl (by decide) _ _ _ rfl ((hown2.alloc _).alloc _) ⟨w2.heap.size + 1, 0, none⟩ 1 1 [.int .i64 kd, .string ⟨t.toArray⟩, .int .i64 n, .int .i64 k] rfl rfl ?c1 ?c2 ?c3 ?c4 ?c5 ?_)
        case c1 => exact new_cells _ 68 [.int .i64 kd, .string ⟨t.toArray⟩, .int .i64 n, .int .i64 k] _ (by simp)
        case c2 => intro u hu; simp at hu; rcases hu with rfl | rfl | rfl | rfl <;> rfl
        case c3 => simp only [maxLen]; omega
        case c4 => omega
        case c5 => simp; omega
        intro v' w3 hown3 hg3 _
        have hL : Lies w3 w2.heap.size 68 #[.int .i64 kd, .string ⟨t.toArray⟩, .int .i64 n, .int .i64 k] :=
          ((Lies.new w2 68 _).old _).grown hg3 (fun e => by have := hown2.lt _ e.symm; omega)
        have hB3 : Below w.heap.size w w3 := ((((hbw.trans (hb2.mono hbs)).alloc (by omega) _).alloc (by simp; omega) _)).grown hg3 (by simp; omega) (fun q hq => (hown2.lt q hq).1)
        clear hi hz0 hz1 hz2 hg3 hown2
        obtain ⟨⟨_, c1, _, _⟩, _⟩ := hL.four
        go_wp2_with fail
        refine (span_blk_from s (k + t.length) _).mono ?_
        rintro e w4 ⟨rfl, hb4⟩
        go_wp2_with fail
        go_roundw
        case rel =>
          have hown4 := own_below hown3 hb4 (Nat.le_refl _)
          refine ⟨k + t.length + run blkR (s.data.toList.drop (k + t.length)), f, acc ++ [⟨kd, t, n, k⟩], s2, by go_num, s3, s4, ?_, hB3.trans (hb4.mono hB3.size), HS5⟩
          rw [cellsOf_snoc, List.length_append]
          exact hown4
        case measure => simp [intOf]; omega
    · go_wp2_with fail
      go_ret
      have hdr : s.data.toList.drop k = [] := List.drop_eq_nil_of_le (by rw [← hl0.out]; omega)
      have hE := HS.out
      rw [hdr, scan_end] at hE
      simp only [glue, List.append_nil] at hE
      refine ⟨fun ts h => ?_, fun p x h => ?_, hbw⟩
      · rw [hE] at h
        cases h
        exact ⟨_, rfl, hown⟩
      · rw [hE] at h; cases h
end Lx
end Go.Proofs.YteabbkhlgnoliaaGreatDoor
namespace Go.Proofs.YteabbkhlgnoliaaGreatDoor
namespace Lx
set_option maxRecDepth 100000
section
variable {P : Program} {Q : Exit → Act → List Frame → World → Prop} {cs : List Frame}

theorem upon_more {o : Oper} {a : Act} {n1 n2 : Act → World → Prop} {q : Exit → Act → World → Prop} {r : Result Next} (hn : ∀ a w, n1 a w → n2 a w) (h : o.upon P a n1 q r) : o.upon P a n2 q r := by
  unfold Oper.upon at h ⊢
  split at h
  · exact hn _ _ h
  · exact hn _ _ h
  · exact hn _ _ h
  · refine Calls.mono h (fun e w hh => ?_)
    cases e with
    | returned v => exact hn _ _ hh
    | panicked c => exact hh
    | outgrown => exact hh
  · exact Rows.mono h (fun v w hh => hn _ _ hh)
  · exact h
  · exact h

theorem opsS_of_list {ops : Array Oper} (hno : ¬ LetsOut (fun e a w => Q e a cs w)) (l : List Oper) : ∀ (k : Nat) (a : Act) (w : World), (∀ j, l[j]? = ops[k + j]?) → wpList P ops (fun e a w => Q e a cs w) l a w → wpOpsS P ops Q (List.range' k l.length) a cs w := by
  induction l with
  | nil => intro k a w _ h; simpa [wpOpsS, wpList] using h
  | cons o l ih =>
    intro k a w hk h
    have h0 : ops[k]? = some o := by simpa using (hk 0).symm
    have ih' := fun a w => ih (k + 1) a w (fun j => by have := hk (j + 1); simpa [Nat.add_assoc, Nat.add_comm 1 j] using this)
    simp only [List.length_cons, List.range'_succ, wpOpsS, h0]
    unfold wpList at h
    split at h
    · rename_i hw
      rw [if_pos hw]
      rcases h with h | h
      · have h2 := upon_more (n2 := fun a' w' => wpOpsS P ops Q (List.range' (k + 1) l.length) a' cs w') ih' h
        split
        · rename_i w' hr
          rw [hr] at h2
          exact h2.elim
        · exact h2
      · exact absurd h.2 hno
    · rename_i hw
      rw [if_neg hw]
      exact ih' _ _ h

theorem opsS_recover {ops : Array Oper} {i : Nat} {rest : List Nat} {o : Oper} {a : Act} {w w' : World} {v : Value} {cs' : List Frame} (ho : ops[i]? = some o) (hg : o.guard = none)
    (hr : (execOp a.eval o).run P w = .ok .recover w') (hc : recoverD cs = some (v, cs')) (h : wpOpsS P ops Q rest (a.put o.dst v) cs' w') : wpOpsS P ops Q (i :: rest) a cs w := by
  have hw : Region.wanted o (yielded ops a.tmps) = true := by simp [Region.wanted, hg]
  simp only [wpOpsS, ho, hw, if_true, hr, hc]
  exact h
theorem opsS_recover_nil {ops : Array Oper} {i : Nat} {rest : List Nat} {o : Oper} {a : Act} {w w' : World} (ho : ops[i]? = some o) (hg : o.guard = none)
    (hr : (execOp a.eval o).run P w = .ok .recover w') (hc : recoverD cs = none) (h : wpOpsS P ops Q rest (a.put o.dst .nilIface) cs w') : wpOpsS P ops Q (i :: rest) a cs w := by
  have hw : Region.wanted o (yielded ops a.tmps) = true := by simp [Region.wanted, hg]
  simp only [wpOpsS, ho, hw, if_true, hr, hc]
  exact h
theorem region_recover {id : Nat} {ops : Array Oper} {o : Oper} {l : List Oper} {a : Act} {w w' : World} {v : Value} {cs' : List Frame} (hops : ops.toList = o :: l) (hg : o.guard = none)
    (hr : (execOp a.eval o).run P w = .ok .recover w') (hc : recoverD cs = some (v, cs')) (hno : ¬ LetsOut (fun e a w => Q e a cs' w)) (h : wpList P ops (fun e a w => Q e a cs' w) l (a.put o.dst v) w') :
    (Code.region id ops false).wpS P Q a cs w := by
  obtain ⟨L⟩ := ops
  obtain rfl : L = o :: l := hops
  refine wpS_region ?_
  rw [List.range_eq_range', show (o :: l).toArray.size = l.length + 1 from rfl, List.range'_succ]
  refine opsS_recover (by simp) hg hr hc ?_
  exact opsS_of_list hno l 1 _ _ (fun j => by simp [Nat.add_comm]) h
theorem region_recover_nil {id : Nat} {ops : Array Oper} {o : Oper} {l : List Oper} {a : Act} {w w' : World} (hops : ops.toList = o :: l) (hg : o.guard = none)
    (hr : (execOp a.eval o).run P w = .ok .recover w') (hc : recoverD cs = none) (hno : ¬ LetsOut (fun e a w => Q e a cs w)) (h : wpList P ops (fun e a w => Q e a cs w) l (a.put o.dst .nilIface) w') :
    (Code.region id ops false).wpS P Q a cs w := by
  obtain ⟨L⟩ := ops
  obtain rfl : L = o :: l := hops
  refine wpS_region ?_
  rw [List.range_eq_range', show (o :: l).toArray.size = l.length + 1 from rfl, List.range'_succ]
  refine opsS_recover_nil (by simp) hg hr hc ?_
  exact opsS_of_list hno l 1 _ _ (fun j => by simp [Nat.add_comm]) h
end
end Lx
end Go.Proofs.YteabbkhlgnoliaaGreatDoor
namespace Go.Proofs.YteabbkhlgnoliaaGreatDoor
open Go.RowKit
namespace Lx
set_option maxRecDepth 100000
theorem assert_hit (v : Value) (w : World) : (Instr.typeAssert (.iface 98 v) 20 98 true).run Tryz.prog w = .ok (.tuple #[v, .bool true]) w := by kernel_rfl
theorem assert_nil (w : World) : (Instr.typeAssert .nilIface 20 98 true).run Tryz.prog w = .ok (.tuple #[.agg #[.int .i64 0, .int .i64 0], .bool false]) w := by kernel_rfl

theorem catch_tok (b0 b1 b2 : Nat) (p x : Int) (w : World) (d01 : b0 < b1) (d12 : b1 < b2) (h0 : Lies w b0 58 #[.slice none 0 0]) (h1 : Lies w b1 3 #[.int .i64 0]) (h2 : Lies w b2 29 #[.int .i64 0]) :
    CallsD Tryz.prog 64 #[.pointer (some ⟨b0, 0, none⟩), .pointer (some ⟨b1, 0, none⟩), .pointer (some ⟨b2, 0, none⟩)] (.panicking [{ v := noTok p x, recovered := false }]) w fun e u' w' =>
      e = .returned (.tuple #[]) ∧ u' = .panicking [{ v := noTok p x, recovered := true }] ∧ Lies w' b0 58 #[.slice none 0 0] ∧ Lies w' b1 3 #[.int .i64 p] ∧ Lies w' b2 29 #[.int .i64 x] ∧ Below b0 w w' := by
  unfold noTok
  refine callsD_of_wpS Tryz.func64 rfl fun c₀ cs hu => ?_
  apply wpS_seq
  refine region_recover (w' := w) (v := .iface 98 (.agg #[.int .i64 p, .int .i64 x])) rfl rfl rfl (by simp [recoverD, hu]; rfl) ?_ ?_
  · rintro ⟨a, w2, h⟩
    simp [Exit.thenS, bodyPostS] at h
  · have hta := assert_hit (.agg #[.int .i64 p, .int .i64 x])
    show wpList _ _ _ _ { tmps := #[.pointer (some ⟨b0, 0, none⟩), .pointer (some ⟨b1, 0, none⟩), .pointer (some ⟨b2, 0, none⟩), undef, undef, undef, .iface 98 (.agg #[.int .i64 p, .int .i64 x]), undef, undef, undef, undef, undef, undef, undef, undef], defers := [] } w
    go_wp2_with fail
    refine wpS_of_wp ?_
    clear hta
    have g0 := h0.old (.cells #[.int .i64 p, .int .i64 x] 98)
    have g1 := h1.old (.cells #[.int .i64 p, .int .i64 x] 98)
    have g2 := h2.old (.cells #[.int .i64 p, .int .i64 x] 98)
    have gn := Lies.new w 98 #[.int .i64 p, .int .i64 x]
    obtain ⟨W, hW⟩ : ∃ W, W = w.alloc (.cells #[.int .i64 p, .int .i64 x] 98) := ⟨_, rfl⟩
    rw [← hW] at g0 g1 g2 gn ⊢
    have c0 := g0.cell 0
    have c1 := g1.cell 0
    have c2 := g2.cell 0
    have f0 := g0.frozen 0
    have f1 := g1.frozen 0
    have f2 := g2.frozen 0
    have n0 := gn.cell 0
    have n1 := gn.cell 1
    simp at c0 c1 c2 n0 n1
    have HW := Lib.hid hW
    clear hW
    obtain ⟨G, hG⟩ : ∃ G, G = w.heap.size := ⟨_, rfl⟩
    rw [← hG] at n0 n1 gn ⊢
    have l2 := h2.lt
    rw [← hG] at l2
    have HG := Lib.hid hG
    clear hG h0 h1 h2
    have e1 : ¬ b0 = b1 := by omega
    have e2 : ¬ b1 = b0 := by omega
    have e3 : ¬ b0 = b2 := by omega
    have e4 : ¬ b2 = b0 := by omega
    have e5 : ¬ b1 = b2 := by omega
    have e6 : ¬ b2 = b1 := by omega
    have e7 : ¬ b0 = G := by omega
    have e8 : ¬ G = b0 := by omega
    have e9 : ¬ b1 = G := by omega
    have e10 : ¬ G = b1 := by omega
    have e11 : ¬ b2 = G := by omega
    have e12 : ¬ G = b2 := by omega
    have L2 := Lib.hid l2
    clear l2
    go_wp2_with fail
    go_region
    have hb : Below b0 w W := by
      rw [HW.out]
      exact (Below.refl _ w).alloc (by have := L2.out; rw [← HG.out]; omega) _
    refine ⟨rfl, _, rfl, .tuple #[], by simp [results, Tryz.results64], rfl, rfl, ?_, ?_, ?_, ?_⟩
    · exact ((((g0.put 0 (.slice none 0 0)).far (p := ⟨b1, 0, none⟩) e1 _).far (p := ⟨b2, 0, none⟩) e3 _)).drew
    · exact (((g1.far (p := ⟨b0, 0, none⟩) e2 _).put 0 (.int .i64 p)).far (p := ⟨b2, 0, none⟩) e5 _).drew
    · exact (((g2.far (p := ⟨b0, 0, none⟩) e4 _).far (p := ⟨b1, 0, none⟩) e6 _).put 0 (.int .i64 x)).drew
    · exact (((hb.setCell (p := ⟨b0, 0, none⟩) (Nat.le_refl _) _).setCell (p := ⟨b1, 0, none⟩) (Nat.le_of_lt d01) _).setCell (p := ⟨b2, 0, none⟩) (by show b0 ≤ b2; omega) _).drew

theorem catch_idle (b0 b1 b2 : Nat) (w : World) :
    CallsD Tryz.prog 64 #[.pointer (some ⟨b0, 0, none⟩), .pointer (some ⟨b1, 0, none⟩), .pointer (some ⟨b2, 0, none⟩)] .returning w fun e u' w' =>
      e = .returned (.tuple #[]) ∧ u' = .returning ∧ Below w.heap.size w w' := by
  refine callsD_of_wpS Tryz.func64 rfl fun c₀ cs hu => ?_
  apply wpS_seq
  refine region_recover_nil (w' := w) rfl rfl rfl (by simp [recoverD, hu]) ?_ ?_
  · rintro ⟨a, w2, h⟩
    simp [Exit.thenS, bodyPostS] at h
  · have hta := assert_nil
    show wpList _ _ _ _ { tmps := #[.pointer (some ⟨b0, 0, none⟩), .pointer (some ⟨b1, 0, none⟩), .pointer (some ⟨b2, 0, none⟩), undef, undef, undef, .nilIface, undef, undef, undef, undef, undef, undef, undef, undef], defers := [] } w
    go_wp2_with fail
    refine wpS_of_wp ?_
    clear hta
    go_wp2_with fail
    refine ⟨rfl, .returning, ?_, .tuple #[], by simp [results, Tryz.results64], rfl, rfl, ?_⟩
    · cases c₀; simp_all
    · exact (Below.refl _ w).alloc (Nat.le_refl _) _

set_option maxHeartbeats 1000000 in
theorem all_bad (s : ByteArray) (p x : Int) (w : World) (hs : s.size ≤ 60000) (hg : Signs w) (h : allK s.data.toList = .error (p, x)) :
    Calls Tryz.prog 35 #[.string s] w fun e w' => e = .returned (.tuple #[.slice none 0 0, .int .i64 p, .int .i64 x]) ∧ Below w.heap.size w w' := by
  have hmf : ∀ (fn : Fn) (first cap : Array Value) (w : World), (Instr.makeFunc fn first cap).run Tryz.prog w = .ok (.func fn first cap) w := fun _ _ _ _ => rfl
  have HH := Lib.hid h
  clear h
  have hpos := hg.pos
  have hg0 : Signs (((w.alloc (.cells #[.slice none 0 0] 58)).alloc (.cells #[.int .i64 0] 3)).alloc (.cells #[.int .i64 0] 29)) :=
    hg.below ((((Below.refl _ w).alloc (Nat.le_refl _) _).alloc (by simp) _).alloc (by simp; omega) _) hpos
  go_enter_defers Tryz.func35, Tryz.ntmps35
  go_wp2_with fail
  refine (tokens_any s _ hs hg0).mono ?_
  rintro e w1 ⟨_, hbad, hb1⟩
  obtain rfl := hbad p x HH.out
  clear hbad
  have l0 := (((Lies.new w 58 #[.slice none 0 0]).old (.cells #[.int .i64 0] 3)).old (.cells #[.int .i64 0] 29)).below hb1 (by simp; omega)
  have l1 := ((Lies.new (w.alloc (.cells #[.slice none 0 0] 58)) 3 #[.int .i64 0]).old (.cells #[.int .i64 0] 29)).below hb1 (by simp)
  have l2 := (Lies.new ((w.alloc (.cells #[.slice none 0 0] 58)).alloc (.cells #[.int .i64 0] 3)) 29 #[.int .i64 0]).below hb1 (by simp)
  have hB : Below w.heap.size w w1 := ((((Below.refl _ w).alloc (Nat.le_refl _) _).alloc (by simp) _).alloc (by simp; omega) _).trans (hb1.mono (by simp; omega))
  go_wp2_with fail
  refine leaves_cons (f := 64) (args := #[.pointer (some ⟨w.heap.size, 0, none⟩), .pointer (some ⟨w.heap.size + 1, 0, none⟩), .pointer (some ⟨w.heap.size + 1 + 1, 0, none⟩)]) (by simp) (by simp [go_sem]) ?_
  refine (catch_tok w.heap.size (w.heap.size + 1) (w.heap.size + 1 + 1) p x w1 (by omega) (by omega) l0 (by simpa using l1) (by simpa using l2)).mono ?_
  rintro e u' w2 ⟨rfl, rfl, k0, k1, k2, hb2⟩
  have c0 := k0.cell 0
  have c1 := k1.cell 0
  have c2 := k2.cell 0
  simp at c0 c1 c2
  simp [Leaves, settle, results, Tryz.results35, go_sem, c0, c1, c2]
  exact hB.trans hb2

theorem own_slice {w : World} {base : Nat} {e : TypeId} {size : Nat} {v : Value} {n : Nat} {xs : List Value} (h : w.ownsRow base e size v n xs) : ∃ A c, v = .slice A n c := by
  rcases h.2 with ⟨rfl, rfl⟩ | ⟨g, cap, cur, rfl, _⟩
  · exact ⟨_, _, rfl⟩
  · exact ⟨_, _, rfl⟩

/-- What the call owns above three result variables stays owned while these are written. -/
theorem own_stored3 {w : World} {base B : Nat} {e : TypeId} {size : Nat} {v : Value} {n : Nat} {xs : List Value} (h : w.ownsRow B e size v n xs) (_hB : B ≤ w.heap.size) (hb : base + 3 ≤ B) {x y z : Value} :
    (((w.setCell ⟨base, 0, none⟩ x).setCell ⟨base + 1, 0, none⟩ y).setCell ⟨base + 1 + 1, 0, none⟩ z).ownsRow base e size v n xs :=
  Joins.ownsRow_le (ownsRow_setCell_below (ownsRow_setCell_below (ownsRow_setCell_below h (by show base < B; omega) x) (by show base + 1 < B; omega) y) (by show base + 1 + 1 < B; omega) z) (by omega)

set_option maxHeartbeats 1000000 in
theorem all_good (s : ByteArray) (ts : List Tok) (w : World) (hs : s.size ≤ 60000) (hg : Signs w) (h : allK s.data.toList = .ok ts) :
    Calls Tryz.prog 35 #[.string s] w fun e w' => ∃ A c, e = .returned (.tuple #[.slice A ts.length c, .int .i64 0, .int .i64 0]) ∧ w'.ownsRow w.heap.size 68 4 (.slice A ts.length c) ts.length (cellsOf ts) ∧ Below w.heap.size w w' := by
  have hmf : ∀ (fn : Fn) (first cap : Array Value) (w : World), (Instr.makeFunc fn first cap).run Tryz.prog w = .ok (.func fn first cap) w := fun _ _ _ _ => rfl
  have HH := Lib.hid h
  clear h
  have hpos := hg.pos
  have hg0 : Signs (((w.alloc (.cells #[.slice none 0 0] 58)).alloc (.cells #[.int .i64 0] 3)).alloc (.cells #[.int .i64 0] 29)) :=
    hg.below ((((Below.refl _ w).alloc (Nat.le_refl _) _).alloc (by simp) _).alloc (by simp; omega) _) hpos
  go_enter_defers Tryz.func35, Tryz.ntmps35
  go_wp2_with fail
  refine (tokens_any s _ hs hg0).mono ?_
  rintro e w1 ⟨hgood, _, hb1⟩
  obtain ⟨v, rfl, hown⟩ := hgood ts HH.out
  clear hgood
  obtain ⟨A, c, rfl⟩ := own_slice hown
  have l0 := (((Lies.new w 58 #[.slice none 0 0]).old (.cells #[.int .i64 0] 3)).old (.cells #[.int .i64 0] 29)).below hb1 (by simp; omega)
  have l1 : Lies w1 (w.heap.size + 1) 3 #[.int .i64 0] := by simpa using ((Lies.new (w.alloc (.cells #[.slice none 0 0] 58)) 3 #[.int .i64 0]).old (.cells #[.int .i64 0] 29)).below hb1 (by simp)
  have l2 : Lies w1 (w.heap.size + 1 + 1) 29 #[.int .i64 0] := by simpa using (Lies.new ((w.alloc (.cells #[.slice none 0 0] 58)).alloc (.cells #[.int .i64 0] 3)) 29 #[.int .i64 0]).below hb1 (by simp)
  have hB : Below w.heap.size w w1 := ((((Below.refl _ w).alloc (Nat.le_refl _) _).alloc (by simp) _).alloc (by simp; omega) _).trans (hb1.mono (by simp; omega))
  have c0 := l0.cell 0
  have c1 := l1.cell 0
  have c2 := l2.cell 0
  have f0 := l0.frozen 0
  have f1 := l1.frozen 0
  have f2 := l2.frozen 0
  simp at c0 c1 c2
  clear HH hg hg0 hs
  go_wp2_with fail
  refine leaves_cons (f := 64) (args := #[.pointer (some ⟨w.heap.size, 0, none⟩), .pointer (some ⟨w.heap.size + 1, 0, none⟩), .pointer (some ⟨w.heap.size + 1 + 1, 0, none⟩)]) (by simp) (by simp [go_sem]) ?_
  refine (catch_idle w.heap.size (w.heap.size + 1) (w.heap.size + 1 + 1) _).mono ?_
  rintro e u' w2 ⟨rfl, rfl, hb2⟩
  have hlt := l2.lt
  have hown2 := own_below (own_stored3 hown hb1.size (by simp)) hb2 (Nat.le_refl _)
  have k0 := (((l0.put 0 (.slice A ts.length c)).far (p := ⟨w.heap.size + 1, 0, none⟩) (by simp) (.int .i64 0)).far (p := ⟨w.heap.size + 1 + 1, 0, none⟩) (by simp; omega) (.int .i64 0)).below hb2 (by simp; omega)
  have k1 := (((l1.far (p := ⟨w.heap.size, 0, none⟩) (by simp) (.slice A ts.length c)).put 0 (.int .i64 0)).far (p := ⟨w.heap.size + 1 + 1, 0, none⟩) (by simp) (.int .i64 0)).below hb2 (by simp; omega)
  have k2 := (((l2.far (p := ⟨w.heap.size, 0, none⟩) (by simp; omega) (.slice A ts.length c)).far (p := ⟨w.heap.size + 1, 0, none⟩) (by simp) (.int .i64 0)).put 0 (.int .i64 0)).below hb2 (by simp; omega)
  have c0 := k0.cell 0
  have c1 := k1.cell 0
  have c2 := k2.cell 0
  simp at c0 c1 c2
  simp [Leaves, settle, results, Tryz.results35, go_sem, c0, c1, c2]
  exact ⟨A, c, ⟨rfl, rfl⟩, hown2, (((hB.setCell (p := ⟨w.heap.size, 0, none⟩) (Nat.le_refl _) _).setCell (p := ⟨w.heap.size + 1, 0, none⟩) (by simp) _).setCell (p := ⟨w.heap.size + 1 + 1, 0, none⟩) (by show w.heap.size ≤ w.heap.size + 1 + 1; omega) _).trans (hb2.mono (by simp; omega))⟩
end Lx
end Go.Proofs.YteabbkhlgnoliaaGreatDoor
namespace Go.Proofs.YteabbkhlgnoliaaGreatDoor
open Go.RowKit
namespace Lx
set_option maxRecDepth 100000
/-- The slice with the address A reads as the tokens of l. -/
def Row (w : World) (A : Option Addr) (l : List Tok) : Prop :=
  l ≠ [] → ∃ g o, A = some ⟨g, o, none⟩ ∧ ∀ n u, (cellsOf l)[n]? = some u → w.cell? ⟨g, o + n, none⟩ = some u

theorem cell_lt {w : World} {g o : Nat} {u : Value} (h : w.cell? ⟨g, o, none⟩ = some u) : g < w.heap.size := by
  by_cases hlt : g < w.heap.size
  · exact hlt
  · simp [World.cell?, Array.getElem?_eq_none (Nat.le_of_not_lt hlt)] at h

theorem cellsOf_pos {l : List Tok} (h : l ≠ []) : 0 < (cellsOf l).length := by
  rw [cellsOf_length]
  have := List.length_pos_iff.2 h
  omega
theorem Row.below {w w' : World} {A : Option Addr} {l : List Tok} {B : Nat} (h : Row w A l) (hb : Below B w w') (hB : w.heap.size ≤ B) : Row w' A l := by
  intro hl
  obtain ⟨g, o, rfl, hc⟩ := h hl
  refine ⟨g, o, rfl, fun n u hu => ?_⟩
  have h1 := hc n u hu
  have := cell_lt h1
  rw [hb.cell (p := ⟨g, o + n, none⟩) (by show g < B; omega)]
  exact h1
theorem Row.of_own {w : World} {base : Nat} {A : Option Addr} {n c : Nat} {l : List Tok} (h : w.ownsRow base 68 4 (.slice A n c) n (cellsOf l)) : Row w A l := by
  intro hl
  have hp := cellsOf_pos hl
  have hn : 0 < n := by
    have := h.1
    omega
  obtain ⟨g, cap, hv⟩ := Joins.ownsRow_form h hn
  have hA : A = some ⟨g, 0, none⟩ := by injection hv
  subst hA
  refine ⟨g, 0, rfl, fun j u hu => ?_⟩
  have h1 := h.cells (g := g) rfl j u hu
  have hadd : (⟨g, 0, none⟩ : Addr).add j = ⟨g, 0 + j, none⟩ := by unfold Addr.add; split <;> simp_all
  rw [hadd] at h1
  exact h1

theorem cellsOf_at (l : List Tok) (i : Nat) (h : i < l.length) (j : Nat) (hj : j < 4) : (cellsOf l)[i * 4 + j]? = (l[i]'h).cells[j]? := by
  induction l generalizing i with
  | nil => simp at h
  | cons a r ih =>
    have hc : cellsOf (a :: r) = a.cells ++ cellsOf r := by simp [cellsOf]
    have ha : a.cells.length = 4 := rfl
    cases i with
    | zero =>
      rw [hc, List.getElem?_append_left (by omega)]
      simp
    | succ i =>
      rw [hc, List.getElem?_append_right (by omega), ha]
      have := ih i (by simpa using h)
      rw [show (i + 1) * 4 + j - 4 = i * 4 + j from by omega, this]
      simp

/-- The four cells of token i. -/
theorem Row.at_ {w : World} {A : Option Addr} {l : List Tok} (h : Row w A l) {i : Nat} (hi : i < l.length) :
    ∃ g o, A = some ⟨g, o, none⟩ ∧ w.cell? ⟨g, o + i * 4, none⟩ = some (.int .i64 (l[i]'hi).kind) ∧ w.cell? ⟨g, o + i * 4 + 1, none⟩ = some (.string ⟨(l[i]'hi).text.toArray⟩) ∧
      w.cell? ⟨g, o + i * 4 + 2, none⟩ = some (.int .i64 (l[i]'hi).n) ∧ w.cell? ⟨g, o + i * 4 + 3, none⟩ = some (.int .i64 (l[i]'hi).place) := by
  obtain ⟨g, o, rfl, hc⟩ := h (by intro e; subst e; simp at hi)
  refine ⟨g, o, rfl, hc _ _ ?_, ?_, ?_, ?_⟩
  · have := cellsOf_at l i hi 0 (by omega); simpa [Tok.cells] using this
  · have := hc (i * 4 + 1) _ ((cellsOf_at l i hi 1 (by omega)).trans rfl); simpa [Nat.add_assoc] using this
  · have := hc (i * 4 + 2) _ ((cellsOf_at l i hi 2 (by omega)).trans rfl); simpa [Nat.add_assoc] using this
  · have := hc (i * 4 + 3) _ ((cellsOf_at l i hi 3 (by omega)).trans rfl); simpa [Nat.add_assoc] using this

theorem neq_tok (t u : Tok) (w : World) : (binOp .neq 68 (.agg #[.int .i64 t.kind, .string ⟨t.text.toArray⟩, .int .i64 t.n, .int .i64 t.place]) (.agg #[.int .i64 u.kind, .string ⟨u.text.toArray⟩, .int .i64 u.n, .int .i64 u.place])).run Tryz.prog w = .ok (.bool (decide (t ≠ u))) w := by
  obtain ⟨k1, x1, n1, p1⟩ := t
  obtain ⟨k2, x2, n2, p2⟩ := u
  simp [go_sem]
  by_cases h1 : k1 = k2 <;> by_cases h2 : x1 = x2 <;> by_cases h3 : n1 = n2 <;> by_cases h4 : p1 = p2 <;> simp [h1, h2, h3, h4]

end Lx
end Go.Proofs.YteabbkhlgnoliaaGreatDoor
namespace Go.Proofs.YteabbkhlgnoliaaGreatDoor
namespace Lx
set_option maxRecDepth 100000
theorem run_app (P : Int → Bool) (r : List UInt8) (hr : run P r = 0) : ∀ t : List UInt8, (∀ c ∈ t, P (c.toNat : Int) = true) → run P (t ++ r) = t.length
  | [], _ => by simpa using hr
  | c :: t, h => by
    have h1 := run_app P r hr t (fun d hd => h d (by simp [hd]))
    have h2 := h c (by simp)
    simp [run, h1, h2]
theorem run_take_all (P : Int → Bool) : ∀ l : List UInt8, ∀ c ∈ l.take (run P l), P (c.toNat : Int) = true
  | [], c, h => by simp at h
  | a :: l, c, h => by
    by_cases ha : P (a.toNat : Int) = true
    · simp only [run, ha, if_true, List.take_succ_cons, List.mem_cons] at h
      rcases h with rfl | h
      · exact ha
      · exact run_take_all P l c h
    · simp [run, ha] at h

/-- What may stand behind a token: nothing, or a blank. -/
def Gap (r : List UInt8) : Prop := r = [] ∨ ∃ q, r = 32 :: q
theorem gap_ld {r : List UInt8} (h : Gap r) : run ldR r = 0 := by
  rcases h with rfl | ⟨q, rfl⟩ <;> rfl

theorem sign_gap {r : List UInt8} (h : Gap r) : ∀ g ∈ signsS, run ldR (g ++ r) = 0 ∧ signOf (g ++ r) = some g := by
  rcases h with rfl | ⟨q, rfl⟩
  · intro g hg
    simp only [signsS, List.mem_cons, List.not_mem_nil, or_false] at hg
    rcases hg with rfl | rfl | rfl | rfl | rfl | rfl | rfl | rfl | rfl | rfl | rfl | rfl | rfl | rfl | rfl <;> exact ⟨rfl, rfl⟩
  · intro g hg
    simp only [signsS, List.mem_cons, List.not_mem_nil, or_false] at hg
    rcases hg with rfl | rfl | rfl | rfl | rfl | rfl | rfl | rfl | rfl | rfl | rfl | rfl | rfl | rfl | rfl <;> exact ⟨rfl, rfl⟩

theorem tok_gap {l t r : List UInt8} {kd n : Int} (h : tokK l = .ok (kd, n, t)) (hr : Gap r) : tokK (t ++ r) = .ok (kd, n, t) := by
  unfold tokK at h
  split at h
  · rename_i h0
    split at h
    · rename_i k' n' h1
      simp only [Except.ok.injEq, Prod.mk.injEq] at h
      obtain ⟨rfl, rfl, rfl⟩ := h
      have hall := run_take_all ldR l
      have hrun := run_app ldR r (gap_ld hr) (l.take (run ldR l)) hall
      have hle := run_le ldR l
      have hpos : 0 < (l.take (run ldR l)).length := by rw [List.length_take]; omega
      generalize l.take (run ldR l) = t at *
      unfold tokK
      rw [hrun, if_pos hpos, List.take_left, h1]
    · cases h
  · split at h
    · rename_i g h1
      simp only [Except.ok.injEq, Prod.mk.injEq] at h
      obtain ⟨rfl, rfl, rfl⟩ := h
      obtain ⟨h2, h3⟩ := sign_gap hr g (List.mem_of_find?_eq_some h1)
      unfold tokK
      rw [h2, if_neg (by omega), h3]
    · cases h

/-- A token that was read somewhere. -/
def Good (t : Tok) : Prop := ∃ l, tokK l = .ok (t.kind, t.n, t.text)
theorem scan_all_good : ∀ (f : Nat) (l : List UInt8) (k : Nat) (ts : List Tok), scan f l k = .ok ts → ∀ t ∈ ts, Good t := by
  intro f
  induction f with
  | zero => intro l k ts h; simp [scan] at h; subst h; simp
  | succ f ih =>
    intro l k ts h
    unfold scan at h
    split at h
    · cases h; simp
    · split at h
      · cases h
      · rename_i kd n t ht
        split at h
        · cases h
        · rename_i r hr
          cases h
          intro u hu
          rcases List.mem_cons.1 hu with rfl | hu
          · exact ⟨l, ht⟩
          · exact ih _ _ _ hr u hu

/-- The tokens' texts, with one blank between any two. -/
def textS : List Tok → List UInt8
  | [] => []
  | [t] => t.text
  | t :: u :: r => t.text ++ 32 :: textS (u :: r)
theorem good_pos {t : Tok} (h : Good t) : 0 < t.text.length := by
  obtain ⟨l, h⟩ := h
  exact (tok_text h).1
theorem blk_head {c : UInt8} {l t : List UInt8} {kd n : Int} (h : tokK (c :: l) = .ok (kd, n, t)) : blkR (c.toNat : Int) = false := by
  cases hb : blkR (c.toNat : Int) with
  | false => rfl
  | true =>
    exfalso
    have hc : c = 32 ∨ c = 10 ∨ c = 9 := by
      simp only [blkR, Bool.or_eq_true, beq_iff_eq] at hb
      rcases hb with (hb | hb) | hb
      · exact .inl (UInt8.toNat_inj.1 (by simpa using Int.ofNat_inj.1 hb))
      · exact .inr (.inl (UInt8.toNat_inj.1 (by simpa using Int.ofNat_inj.1 hb)))
      · exact .inr (.inr (UInt8.toNat_inj.1 (by simpa using Int.ofNat_inj.1 hb)))
    rcases hc with rfl | rfl | rfl <;> cases h
theorem text_blk {ts : List Tok} (h : ∀ t ∈ ts, Good t) : run blkR (textS ts) = 0 := by
  have key : ∀ (t : Tok), Good t → ∀ r, run blkR (t.text ++ r) = 0 := by
    intro t ht r
    have hp := good_pos ht
    obtain ⟨l, hl⟩ := ht
    have h2 := tok_gap (r := []) hl (.inl rfl)
    rw [List.append_nil] at h2
    cases htx : t.text with
    | nil => rw [htx] at hp; simp at hp
    | cons c q =>
      rw [htx] at h2
      have := blk_head h2
      simp [run, this]
  match ts, h with
  | [], _ => rfl
  | [t], h =>
    have := key t (h t (by simp)) []
    simpa [textS] using this
  | t :: u :: r, h => exact key t (h t (by simp)) _

theorem scan_text : ∀ (ts : List Tok), (∀ t ∈ ts, Good t) → ∀ f k, ts.length ≤ f → ∃ us, scan f (textS ts) k = .ok us ∧ us.map (fun t => (t.kind, t.text, t.n)) = ts.map (fun t => (t.kind, t.text, t.n))
  | [], _, f, k, _ => ⟨[], scan_end f k, rfl⟩
  | [t], h, f, k, hf => by
    obtain ⟨f, rfl⟩ : ∃ g, f = g + 1 := ⟨f - 1, by simp at hf; omega⟩
    have hp := good_pos (h t (by simp))
    obtain ⟨l, hl⟩ := h t (by simp)
    have h2 := tok_gap (r := []) hl (.inl rfl)
    rw [List.append_nil] at h2
    have hne : t.text ≠ [] := by intro e; rw [e] at hp; simp at hp
    refine ⟨[⟨t.kind, t.text, t.n, k⟩], ?_, rfl⟩
    simp [textS, scan, hne, h2, run, scan_end]
  | t :: u :: r, h, f, k, hf => by
    obtain ⟨f, rfl⟩ : ∃ g, f = g + 1 := ⟨f - 1, by simp at hf; omega⟩
    have hp := good_pos (h t (by simp))
    obtain ⟨l, hl⟩ := h t (by simp)
    have h2 := tok_gap (r := 32 :: textS (u :: r)) hl (.inr ⟨_, rfl⟩)
    have hb : run blkR (textS (u :: r)) = 0 := text_blk (fun x hx => h x (by simp [List.mem_cons.1 hx]))
    have hb1 : run blkR (32 :: textS (u :: r)) = 1 := by
      rw [run, hb]; rfl
    obtain ⟨us, hs, hm⟩ := scan_text (u :: r) (fun x hx => h x (by simp [List.mem_cons.1 hx])) f (k + t.text.length + 1) (by simp at hf ⊢; omega)
    refine ⟨⟨t.kind, t.text, t.n, k⟩ :: us, ?_, by simp [hm]⟩
    have hne : t.text ++ 32 :: textS (u :: r) ≠ [] := by simp
    rw [textS, scan, if_neg hne, h2]
    simp only [List.drop_left, hb1, List.drop_succ_cons, List.drop_zero, hs]

theorem textS_len : ∀ (ts : List Tok), (∀ t ∈ ts, Good t) → ts.length ≤ (textS ts).length
  | [], _ => by simp
  | [t], h => by have := good_pos (h t (by simp)); simp [textS]; omega
  | t :: u :: r, h => by
    have h1 := good_pos (h t (by simp))
    have h2 := textS_len (u :: r) (fun x hx => h x (by simp [List.mem_cons.1 hx]))
    simp [textS] at h2 ⊢
    omega
theorem textS_bound : ∀ (f : Nat) (l : List UInt8) (k : Nat) (ts : List Tok), scan f l k = .ok ts → (textS ts).length + 1 ≤ 2 * l.length + 1 := by
  intro f
  induction f with
  | zero => intro l k ts h; simp [scan] at h; subst h; simp [textS]
  | succ f ih =>
    intro l k ts h
    unfold scan at h
    split at h
    · cases h; simp [textS]
    · split at h
      · cases h
      · rename_i kd n t ht
        split at h
        · cases h
        · rename_i r hr
          cases h
          obtain ⟨h1, h2, _⟩ := tok_text ht
          have h3 := ih _ _ _ hr
          have h4 := run_le blkR (l.drop t.length)
          simp only [List.length_drop] at h3 h4
          cases r with
          | nil => simp [textS] at h3 ⊢; omega
          | cons u r => simp [textS] at h3 ⊢; omega

/-- The stage's theorem, plainly. -/
theorem allK_again {l : List UInt8} {ts : List Tok} (h : allK l = .ok ts) : ∃ us, allK (textS ts) = .ok us ∧ us.map (fun t => (t.kind, t.text, t.n)) = ts.map (fun t => (t.kind, t.text, t.n)) := by
  have hg := scan_all_good _ _ _ _ h
  obtain ⟨us, hs, hm⟩ := scan_text ts hg ((textS ts).length + 1) 0 (by have := textS_len ts hg; omega)
  refine ⟨us, ?_, hm⟩
  unfold allK
  rw [text_blk hg]
  exact hs
theorem textS_eq : ∀ (us ts : List Tok), us.map (fun t => (t.kind, t.text, t.n)) = ts.map (fun t => (t.kind, t.text, t.n)) → textS us = textS ts
  | [], [], _ => rfl
  | [], _ :: _, h => by simp at h
  | _ :: _, [], h => by simp at h
  | [a], [b], h => by simp at h; simp [textS, h.2.1]
  | [a], b :: c :: r, h => by simp at h
  | a :: b :: r, [c], h => by simp at h
  | a :: b :: r, c :: d :: q, h => by
    simp only [List.map_cons, List.cons.injEq, Prod.mk.injEq] at h
    have := textS_eq (b :: r) (d :: q) (by simp only [List.map_cons, List.cons.injEq, Prod.mk.injEq]; exact h.2)
    simp [textS, this, h.1.2.1]
theorem numK_err {l : List UInt8} {x : Int} (h : numK l = .error x) : x = 10 ∨ x = 11 := by
  unfold numK at h
  split at h
  · cases h; exact .inl rfl
  · split at h
    · cases h; exact .inr rfl
    · cases h
theorem runK_err {l : List UInt8} {x : Int} (h : runK l = .error x) : x = 10 ∨ x = 11 := by
  unfold runK at h
  split at h
  · exact numK_err h
  · split at h
    · cases h; exact .inr rfl
    · split at h
      · cases h
      · split at h <;> cases h
theorem tokK_err {l : List UInt8} {x : Int} (h : tokK l = .error x) : x = 10 ∨ x = 11 := by
  unfold tokK at h
  split at h
  · split at h
    · cases h
    · rename_i h1
      cases h
      exact runK_err h1
  · split at h
    · cases h
    · cases h; exact .inl rfl
theorem scan_err : ∀ (f : Nat) (l : List UInt8) (k : Nat) (p x : Int), scan f l k = .error (p, x) → x = 10 ∨ x = 11 := by
  intro f
  induction f with
  | zero => intro l k p x h; simp [scan] at h
  | succ f ih =>
    intro l k p x h
    unfold scan at h
    split at h
    · cases h
    · split at h
      · rename_i h1
        cases h
        exact tokK_err h1
      · split at h
        · rename_i h1
          cases h
          exact ih _ _ _ _ h1
        · cases h
theorem err_code {l : List UInt8} {p x : Int} (h : allK l = .error (p, x)) : x = 10 ∨ x = 11 := scan_err _ _ _ _ _ h
end Lx
end Go.Proofs.YteabbkhlgnoliaaGreatDoor
namespace Go.Proofs
open Go.Shelf
def Tryz.lays169_ren : Go.Shelf.Ren := ⟨fun | 169 => 33 | n => n, fun | 70 => 50 | 9 => 9 | 0 => 0 | 72 => 53 | 37 => 51 | 127 => 94 | 3 => 3 | 5 => 5 | n => n, fun | n => n⟩
theorem Tryz.lays169 : Go.Proofs.Lays.n169 Tryz.prog Tryz.lays169_ren := {
  mixed := by kernel_rfl
  f169 := Tryz.func33.trans (congrArg some (by kernel_rfl))
  t0 := Tryz.underlying0
  a0 := Tryz.isAgg0
  z0 := Tryz.sizeOf0
  v0 := Tryz.zeroValue0
  t3 := Tryz.underlying3
  a3 := Tryz.isAgg3
  z3 := Tryz.sizeOf3
  v3 := Tryz.zeroValue3
  t9 := Tryz.underlying9
  a9 := Tryz.isAgg9
  z9 := Tryz.sizeOf9
  v9 := Tryz.zeroValue9
  t37 := Tryz.underlying51
  a37 := Tryz.isAgg51
  z37 := Tryz.sizeOf51
  v37 := Tryz.zeroValue51
  t70 := Tryz.underlying50
  a70 := Tryz.isAgg50
  z70 := Tryz.sizeOf50
  v70 := Tryz.zeroValue50
  t72 := Tryz.underlying53
  a72 := Tryz.isAgg53
  z72 := Tryz.sizeOf53
  v72 := Tryz.zeroValue53
  t127 := Tryz.underlying94
  a127 := Tryz.isAgg94
  z127 := Tryz.sizeOf94
  v127 := Tryz.zeroValue94 }
theorem Tryz.Builder_Extra_169 : Builder.Extra Tryz.prog Tryz.lays169_ren := {
  sizeBuilder := by kernel_rfl
  liesBuilder := by kernel_rfl
  t5 := Tryz.underlying5
  a5 := Tryz.isAgg5
  z5 := Tryz.sizeOf5
  v5 := Tryz.zeroValue5
  infoByte := by kernel_rfl
  cellsByte := by kernel_rfl
  sizeByte := by kernel_rfl
  neB5 := by decide }
open Go.RowKit in
theorem Tryz.Builder_String_any_k (B b : Nat) (l : List UInt8) (w : World) (h : Lib.IsBuilderF 53 5 B b (Lib.byteCells l) w) (hBw : B ≤ w.heap.size) :
    Calls Tryz.prog 33 #[.pointer (some ⟨b, 0, none⟩)] w fun e w' => e = .returned (.string ⟨l.toArray⟩) ∧ (Lib.IsBuilderF 53 5 B b (Lib.byteCells l) w' ∧ Below B w w' ∧ Lib.OthersKept 5 (some b) w w') := Any.Builder_String_any_k Tryz.lays169 Tryz.Builder_Extra_169 B b l w h hBw
end Go.Proofs
namespace Go.Proofs.YteabbkhlgnoliaaGreatDoor
open Go.RowKit
namespace Lx
set_option maxRecDepth 100000
theorem size46 : (Tryz.prog.info? 53).map (·.size) = some 2 := by kernel_rfl
theorem lies46 : liesAt Tryz.prog Tryz.prog.depth 53 (2 / Tryz.prog.cellsOf 53) 0 53 1 = true := by kernel_rfl
theorem info5 : (Tryz.prog.info? 5).map (fun i => (i.zero, i.size, i.bytes)) = some (some (.int .u8 0), 1, 1) := by kernel_rfl

set_option maxHeartbeats 1000000 in
theorem check_used (b : Nat) (w : World) (h0 : w.cell? ⟨b, 0, none⟩ = some (.pointer (some ⟨b, 0, none⟩))) :
    Calls Tryz.prog 136 #[.pointer (some ⟨b, 0, none⟩)] w fun e w' => e = .returned (.tuple #[]) ∧ w = w' := by
  obtain ⟨j, hj, _⟩ := Option.map_eq_some_iff.1 size46
  have hne := Lib.run_neq_ptr_same (P := Tryz.prog) w ⟨b, 0, none⟩ Tryz.underlying50 hj
  clear hj
  go_enter Tryz.func136, Tryz.ntmps136
  go_wp2
  go_end0
  exact ⟨rfl, rfl⟩
set_option maxHeartbeats 1000000 in
theorem check_fresh (b : Nat) (w : World) (h0 : w.cell? ⟨b, 0, none⟩ = some (.pointer none)) (hsh : w.shape? b = some (53, 2)) (hfz : w.frozen? ⟨b, 0, none⟩ = false) :
    Calls Tryz.prog 136 #[.pointer (some ⟨b, 0, none⟩)] w fun e w' => e = .returned (.tuple #[]) ∧ w' = w.setCell ⟨b, 0, none⟩ (.pointer (some ⟨b, 0, none⟩)) := by
  obtain ⟨j, hj, hjs⟩ := Option.map_eq_some_iff.1 size46
  have h1 := Lib.run_to_unsafe (P := Tryz.prog) w ⟨b, 0, none⟩ Tryz.underlying50 Tryz.underlying175 hj (by rw [hjs]; decide) hsh (Nat.zero_lt_succ 1)
  have h2 := Lib.run_from_unsafe (P := Tryz.prog) w ⟨b, 0, none⟩ Tryz.underlying175 Tryz.underlying50 hj hsh lies46
  have h3 : (callFunc 160 #[.pointer (some ⟨b, 0, none⟩)]).run Tryz.prog w = .ok (.value (.pointer (some ⟨b, 0, none⟩))) w := by
    rw [run_callFunc_extern Tryz.func160 (by kernel_rfl) (by kernel_rfl) (by kernel_rfl) (e := Extern.AbiNoEscape.same) (by kernel_rfl)]
    rw [Lib.run_noEscape]
    rfl
  clear hj hsh hjs
  go_enter Tryz.func136, Tryz.ntmps136
  go_wp2
  go_end0
  exact ⟨rfl, rfl⟩

/-- A builder of the call's own, in block b, that holds the bytes l. -/
abbrev Bld (B b : Nat) (l : List UInt8) (w : World) : Prop := Lib.IsBuilder 53 5 B b (Lib.byteCells l) w

theorem check_any (B b : Nat) (l : List UInt8) (w : World) (h : Bld B b l w) :
    Calls Tryz.prog 136 #[.pointer (some ⟨b, 0, none⟩)] w fun e w' => e = .returned (.tuple #[]) ∧ Lib.BuilderAt 53 5 B b (.pointer (some ⟨b, 0, none⟩)) (Lib.byteCells l) w' ∧ Below B w w' ∧ Lib.OthersKept 5 (some b) w w' := by
  rcases h with h | h
  · refine (check_fresh b w h.cell0 h.shape h.frozen0).mono ?_
    rintro e w' ⟨rfl, rfl⟩
    exact ⟨rfl, h.used _, (Below.refl B w).setCell (p := ⟨b, 0, none⟩) h.1 _, (Lib.OthersKept.refl _ _ w).setCell ⟨b, 0, none⟩ rfl _⟩
  · refine (check_used b w h.cell0).mono ?_
    rintro e w' ⟨rfl, rfl⟩
    exact ⟨rfl, h, Below.refl B _, Lib.OthersKept.refl _ _ _⟩

set_option maxHeartbeats 2000000 in
theorem byte_any (B b : Nat) (l : List UInt8) (c : UInt8) (w : World) (h : Bld B b l w) (hlen : l.length ≤ 100000000) (hBw : B ≤ w.heap.size) :
    Calls Tryz.prog 94 #[.pointer (some ⟨b, 0, none⟩), .int .u8 c.toNat] w fun e w' => e = .returned .nilIface ∧ Bld B b (l ++ [c]) w' ∧ Below B w w' ∧ Lib.OthersKept 5 (some b) w w' := by
  obtain ⟨i0, hi, hz0, hz1, hz2⟩ := info_parts info5
  go_enter Tryz.func94, Tryz.ntmps94
  go_wp2_with fail
  refine (check_any B b l _ h).mono ?_
  rintro e w1 ⟨rfl, ⟨hB, v, hbk, hown, hne⟩, hb1, hk1⟩
  have hL : Lies w1 b 53 #[.pointer (some ⟨b, 0, none⟩), v] := hbk
  have c0 := hL.cell 0
  have c1 := hL.cell 1
  simp at c0 c1
  have hs1 := hb1.size
  have hlc := Lib.byteCells_length l
  rw [hlc] at hown
  clear h hlc
  go_wp2_with (at_builtin; refine wpList_append_own _ rfl _ _ 51 rfl B 5 i0 (.int .u8 0) 1 1 Tryz.underlying51 hi hz0 hz1 hz2 rfl (by decide) _ _ _ rfl (hown.alloc _) ⟨w1.heap.size, 0, none⟩ 1 1 [.int .u8 c.toNat] rfl rfl ?c1 ?c2 ?c3 ?c4 ?c5 ?_)
  case c1 => exact new_cells _ 5 [.int .u8 c.toNat] _ rfl
  case c2 => intro u hu; simp at hu; subst hu; rfl
  case c3 => unfold maxLen; omega
  case c4 => omega
  case c5 => simp; omega
  intro v' w2 hown' hgrow _
  have hlt := hL.lt
  have hL2 : Lies w2 b 53 #[.pointer (some ⟨b, 0, none⟩), v] := (hL.old _).grown hgrow (fun e => hne e.symm)
  have d0 := hL2.cell 0
  have d1 := hL2.cell 1
  have f1 := hL2.frozen 1
  simp at d0 d1
  obtain ⟨A', c', rfl⟩ := own_slice hown'
  clear hi hz0 hz1 hz2 c0 c1
  go_wp2_with fail
  go_ret
  refine ⟨rfl, ?_, ?_, ?_⟩
  · refine .inr (Lib.BuilderAt.put (T := 53) (e := 5) hB hL2 ?_ (by decide))
    rw [Lib.byteCells_length, List.length_append, Lib.byteCells_append]
    exact hown'
  · exact ((hb1.alloc (by omega) _).grown hgrow (by simp; omega) (fun k hk => (hown.lt k hk).1)).setCell (p := ⟨b, 1, none⟩) hB _
  · exact ((hk1.alloc _).grown hgrow (Lib.ownsRowF_kind (World.ownsRowF_of (hown.alloc _)))).setCell ⟨b, 1, none⟩ rfl _

set_option maxHeartbeats 2000000 in
theorem string_any (B b : Nat) (l t : List UInt8) (w : World) (h : Bld B b l w) (hlen : l.length + t.length ≤ 100000000) (hBw : B ≤ w.heap.size) :
    Calls Tryz.prog 95 #[.pointer (some ⟨b, 0, none⟩), .string ⟨t.toArray⟩] w fun e w' => e = .returned (.tuple #[.int .i64 t.length, .nilIface]) ∧ Bld B b (l ++ t) w' ∧ Below B w w' ∧ Lib.OthersKept 5 (some b) w w' := by
  obtain ⟨i0, hi, hz0, hz1, hz2⟩ := info_parts info5
  go_enter Tryz.func95, Tryz.ntmps95
  go_wp2_with fail
  refine (check_any B b l _ h).mono ?_
  rintro e w1 ⟨rfl, ⟨hB, v, hbk, hown, hne⟩, hb1, hk1⟩
  have hL : Lies w1 b 53 #[.pointer (some ⟨b, 0, none⟩), v] := hbk
  have c0 := hL.cell 0
  have c1 := hL.cell 1
  simp at c0 c1
  have hs1 := hb1.size
  have hlc := Lib.byteCells_length l
  rw [hlc] at hown
  have hts : (⟨t.toArray⟩ : ByteArray).size = t.length := by rw [Lib.size_eq]
  have HT := Lib.hid hts
  clear h hlc hts
  go_wp2_with (at_builtin; refine Lib.wpList_append_own_string _ rfl _ _ 51 9 rfl B 5 i0 Tryz.underlying51 Tryz.underlying9 hi hz0 hz1 hz2 _ _ _ rfl hown _ rfl ?c3 ?c4 ?c5 ?_)
  case c3 => rw [HT.out]; unfold maxLen; omega
  case c4 => rw [HT.out]; omega
  case c5 => omega
  intro v' w2 hown' hgrow _
  have hlt := hL.lt
  have hL2 : Lies w2 b 53 #[.pointer (some ⟨b, 0, none⟩), v] := hL.grown hgrow (fun e => hne e.symm)
  have d0 := hL2.cell 0
  have d1 := hL2.cell 1
  have f1 := hL2.frozen 1
  simp at d0 d1
  obtain ⟨A', c', rfl⟩ := own_slice hown'
  clear hi hz0 hz1 hz2 c0 c1
  go_wp2_with fail
  go_ret2
  refine ⟨?_, ?_, ?_, ?_⟩
  · first | rfl | rw [HT.out]
  · refine .inr (Lib.BuilderAt.put (T := 53) (e := 5) hB hL2 ?_ (by decide))
    rw [Lib.byteCells_length, List.length_append, Lib.byteCells_append]
    exact hown'
  · exact (hb1.grown hgrow (by omega) (fun k hk => (hown.lt k hk).1)).setCell (p := ⟨b, 1, none⟩) hB _
  · exact (hk1.grown hgrow (Lib.ownsRowF_kind (World.ownsRowF_of hown))).setCell ⟨b, 1, none⟩ rfl _

theorem textS_snoc (l : List Tok) (t : Tok) (h : l ≠ []) : textS (l ++ [t]) = textS l ++ (32 :: t.text) := by
  induction l with
  | nil => exact absurd rfl h
  | cons a r ih =>
    cases r with
    | nil => rfl
    | cons b r =>
      have := ih (by simp)
      simp only [List.cons_append] at this ⊢
      simp only [textS, this, List.append_assoc, List.cons_append]
theorem textS_take (l : List Tok) (i : Nat) (h : i < l.length) (h0 : 0 < i) : textS (l.take (i + 1)) = textS (l.take i) ++ (32 :: (l[i]'h).text) := by
  rw [List.take_succ_eq_append_getElem h, textS_snoc _ _ (by intro e; have := congrArg List.length e; rw [List.length_take] at this; simp only [List.length_nil] at this; omega)]
theorem textS_one (l : List Tok) (h : 0 < l.length) : textS (l.take 1) = (l[0]'h).text := by
  cases l with
  | nil => simp at h
  | cons a r => rfl
theorem textS_mono (l : List Tok) (i : Nat) : (textS (l.take i)).length ≤ (textS l).length := by
  by_cases hi : l.length ≤ i
  · rw [List.take_of_length_le hi]; omega
  · have key : ∀ d, (textS (l.take (l.length - d))).length ≤ (textS l).length := by
      intro d
      induction d with
      | zero => rw [Nat.sub_zero, List.take_length]; omega
      | succ d ih =>
        by_cases hd : l.length ≤ d
        · rw [show l.length - (d + 1) = l.length - d from by omega]; exact ih
        · obtain ⟨k, hk⟩ : ∃ k, k = l.length - (d + 1) := ⟨_, rfl⟩
          rw [← hk]
          rw [show l.length - d = k + 1 from by omega] at ih
          by_cases h0 : 0 < k
          · rw [textS_take l k (by omega) h0] at ih
            simp at ih
            omega
          · rw [show k = 0 from by omega]
            simp [textS]
    have := key (l.length - i)
    rwa [show l.length - (l.length - i) = i from by omega] at this

theorem bld_alloc {B b : Nat} {l : List UInt8} {w : World} (h : Bld B b l w) (o : Obj) : Bld B b l (w.alloc o) := by
  rcases h with h | h
  · obtain ⟨hB, v, hb, hown, hne⟩ := h
    exact .inl ⟨hB, v, (Below.heap_alloc w o b (Array.getElem?_eq_some_iff.1 hb).1).trans hb, hown.alloc _, hne⟩
  · obtain ⟨hB, v, hb, hown, hne⟩ := h
    exact .inr ⟨hB, v, (Below.heap_alloc w o b (Array.getElem?_eq_some_iff.1 hb).1).trans hb, hown.alloc _, hne⟩
theorem bld_lt {B b : Nat} {l : List UInt8} {w : World} (h : Bld B b l w) : b < w.heap.size := by
  rcases h with h | h <;> exact h.lt
theorem Lies.others {w w' : World} {g b : Nat} {t : TypeId} {cs : Array Value} (h : Lies w g t cs) (hk : Lib.OthersKept 5 (some b) w w') (hg : g ≠ b) (ht : t ≠ 5) : Lies w' g t cs :=
  hk g _ h (by simpa using hg) (fun c fz e => by injection e with _ e2; exact ht e2)

end Lx
end Go.Proofs.YteabbkhlgnoliaaGreatDoor
namespace Go.Proofs.YteabbkhlgnoliaaGreatDoor
open Go.RowKit
namespace Lx
set_option maxRecDepth 100000
theorem all_good' (s : ByteArray) (ts : List Tok) (n : Nat) (hn : ts.length = n) (w : World) (hs : s.size ≤ 60000) (hg : Signs w) (h : allK s.data.toList = .ok ts) :
    Calls Tryz.prog 35 #[.string s] w fun e w' => ∃ A c, e = .returned (.tuple #[.slice A n c, .int .i64 0, .int .i64 0]) ∧ Row w' A ts ∧ Below w.heap.size w w' := by
  subst hn
  refine (all_good s ts w hs hg h).mono ?_
  rintro e w' ⟨A, c, rfl, hown, hb⟩
  exact ⟨A, c, rfl, Row.of_own hown, hb⟩
end Lx
end Go.Proofs.YteabbkhlgnoliaaGreatDoor
namespace Go.Proofs.YteabbkhlgnoliaaGreatDoor
open Go.RowKit
namespace Lx
set_option maxRecDepth 100000
def ts1 : List Tok := [⟨5, [92], 0, 0⟩, ⟨1, [120], 0, 1⟩, ⟨5, [46], 0, 2⟩, ⟨1, [120], 0, 3⟩]
def ts5 : List Tok := [⟨4, [108, 101, 116, 114, 101, 99], 0, 0⟩, ⟨2, [65, 98], 0, 7⟩, ⟨5, [45, 62], 0, 9⟩, ⟨3, [52, 48], 40, 11⟩]
theorem fix1 : allK [92, 120, 46, 120] = .ok ts1 := by kernel_rfl
theorem fix2 : allK [108, 101, 116, 32, 48, 49] = .error (4, 11) := by kernel_rfl
theorem fix3 : allK [32, 32, 63] = .error (2, 10) := by kernel_rfl
theorem fix4 : allK [120, 32, 49, 97] = .error (2, 10) := by kernel_rfl
theorem fix5 : allK [108, 101, 116, 114, 101, 99, 32, 65, 98, 45, 62, 52, 48] = .ok ts5 := by kernel_rfl

theorem want_row (w : World) : Row (w.alloc (.cells #[.int .i64 5, .string ⟨#[92]⟩, .int .i64 0, .int .i64 0, .int .i64 1, .string ⟨#[120]⟩, .int .i64 0, .int .i64 1, .int .i64 5, .string ⟨#[46]⟩, .int .i64 0, .int .i64 2, .int .i64 1, .string ⟨#[120]⟩, .int .i64 0, .int .i64 3] 68)) (some ⟨w.heap.size, 0, none⟩) ts1 := by
  intro _
  refine ⟨w.heap.size, 0, rfl, fun n u hu => ?_⟩
  rw [Nat.zero_add, (Lies.new w 68 _).cell n, ← hu, ← Array.getElem?_toList]
  rfl

end Lx
end Go.Proofs.YteabbkhlgnoliaaGreatDoor
