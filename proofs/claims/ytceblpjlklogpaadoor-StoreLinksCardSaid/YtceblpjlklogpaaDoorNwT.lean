/-
  A node, linked otherwise.
-/
import Derived.Test.YtceblpjlklogpaaDoorC4
namespace Go.Proofs.YtceblpjlklogpaaDoor
namespace Lx
def Nd.withTo (x : Nd) (t : List (Int × Int)) : Nd := { x with «to» := t }
theorem setNV_with (ns : List Nd) (p q : Int × Int) : setNV ns p q = ns.set p.1.toNat ((ndAt ns p.1.toNat).withTo ((ndAt ns p.1.toNat).to.set p.2.toNat q)) := rfl
end Lx
end Go.Proofs.YtceblpjlklogpaaDoor
