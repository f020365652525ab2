/-
  Plain: what the law HeadLazy makes of two closed terms, and what steps these have.
-/
import Derived.Test.YtiocmiikghcoaaaGreatDoorR9
import Derived.Test.YtiocmiikghcoaaaGreatDoorC18
import Derived.Test.YtiocmiikghcoaaaGreatDoorC15
namespace Go.Proofs.YtiocmiikghcoaaaGreatDoor
open Go.RowKit
namespace Lx
set_option maxRecDepth 100000
def pB9 : ByteArray := ⟨#[80]⟩
def pairE (a b : Te) : Te := .node 4 0 pB9 [a, b]
def altP : Te := .node 6 2 pB9 [.node 1 1 ⟨#[]⟩ []]
def firstE (a b : Te) : Te := .node 5 0 ⟨#[]⟩ [pairE a b, altP]
def lamT (a : Te) : Te := .node 2 0 ⟨#[]⟩ [a]
def konstE (a b : Te) : Te := .node 3 0 ⟨#[]⟩ [lamT a, b]
theorem con_p : conW pB9 = true := by kernel_rfl
theorem may_pair {a b : Te} {f : Int} (ha : mayQ a f false = true) (hb : mayQ b f false = true) : mayQ (pairE a b) f false = true := by
 have hf := may_free ha
 rw [pairE, mayQ]
 simp [headR, con_p, mayQL, moreE, ha, hb, dupAt, hf]
theorem may_altP {f : Int} (hf : 0 ≤ f) : mayQ altP f true = true := by
 rw [altP, mayQ]
 simp [headR, con_p, mayQL, moreE, hf, mayQ]
 omega
theorem may_first {a b : Te} {f : Int} (ha : mayQ a f false = true) (hb : mayQ b f false = true) : mayQ (firstE a b) f false = true := by
 have hf := may_free ha
 have hp := may_pair ha hb
 have h2 := may_altP hf
 rw [firstE, mayQ]
 simp [headR, mayQL, moreE, hp, h2, dupAt, hf]
theorem may_lamT {a : Te} {f : Int} (ha : mayQ a (f + 1) false = true) (hf : 0 ≤ f) : mayQ (lamT a) f false = true := by
 rw [lamT, mayQ]
 simp [headR, mayQL, moreE, ha, hf]
theorem may_konst {a b : Te} {f : Int} (ha : mayQ a f false = true) (hb : mayQ b f false = true) : mayQ (konstE a b) f false = true := by
 have hf := may_free ha
 have hl := may_lamT (may_up0 a f (f + 1) false (by omega) ha) hf
 rw [konstE, mayQ]
 simp [headR, mayQL, moreE, hl, hb, dupAt, hf]
theorem pair_run {a b : Te} (ha : mayQ a 0 false = true) (hb : mayQ b 0 false = true) (h1 : sizeE a ≤ 100) (h2 : sizeE b ≤ 100) : runV (pairE a b) 0 = (pairE a b, 0, 0) := by
 have hs : sizeE (pairE a b) ≤ 201 := by simp [pairE, sizeE, sizeEL]; omega
 rw [runV, if_pos ⟨by omega, by omega, may_pair ha hb⟩]
 exact runE_val (by omega) rfl
theorem first_step {a b : Te} (ha : mayQ a 0 false = true) (hb : mayQ b 0 false = true) : stepV (firstE a b) = (a, 2) := by
 rw [stepV_closed (may_first ha hb), stepE_act (t := firstE a b) rfl]
 have e : actE (firstE a b) = chooseE (pairE a b) [altP] := rfl
 rw [e, chooseE]
 rw [if_pos (show (pairE a b).kind = 4 from rfl), pickE, if_pos (show altP.name = (pairE a b).name ∧ altP.n = ((pairE a b).parts.length : Int) from ⟨rfl, rfl⟩)]
 show (instE (.node 1 1 ⟨#[]⟩ []) [a, b], (2 : Int)) = (a, 2)
 rw [instE, chE, if_pos rfl, instF, if_pos ⟨by decide, by show (1 : Int) < 0 + ((2 : Nat) : Int); decide⟩]
 show (upE a 0 0, (2 : Int)) = (a, 2)
 rw [up_none (may_cl _ _ _ ha)]
theorem konst_step {a b : Te} (ha : mayQ a 0 false = true) (hb : mayQ b 0 false = true) : stepV (konstE a b) = (a, 1) := by
 rw [stepV_closed (may_konst ha hb), stepE_act (t := konstE a b) rfl]
 have e : actE (konstE a b) = applyE (lamT a) b := rfl
 rw [e, applyE]
 rw [if_pos (show (lamT a).kind = 2 from rfl)]
 show (putE a 0 b, (1 : Int)) = (a, 1)
 rw [put_far (may_cl _ _ _ ha) 0 b (by omega)]
end Lx
end Go.Proofs.YtiocmiikghcoaaaGreatDoor
