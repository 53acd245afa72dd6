/- The reference's Encode; the row of four columns that are read, one behind the other. -/
import Derived.Test.YtlnagdodnkhbmaaS1
namespace Go.Proofs.Ytlnagdodnkhbmaa
open Go.RowKit

def REncRel (W : World) (g : Nat) (r : Ro) (v : Value) (k : Nat) (wr : World) : Prop :=
  Own .u8 wr 0 5 v (enc (r.l.take k)) ∧ Chg [] W wr (ownFoot v) ∧ Lies wr g r

end Go.Proofs.Ytlnagdodnkhbmaa

