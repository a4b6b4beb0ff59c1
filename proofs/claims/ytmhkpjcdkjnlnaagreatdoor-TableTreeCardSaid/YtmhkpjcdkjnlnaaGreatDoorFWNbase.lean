/- Plain arithmetic on numbers that go round at 64 bits: sums, products, quotients and rests. -/
import Derived.RowKit
import Derived.IntWalk
import Derived.Test.YtmhkpjcdkjnlnaaGreatDoorFWZgen
namespace Go.Proofs.YtmhkpjcdkjnlnaaGreatDoor
open Go.RowKit

def F64 (a:Int):Prop:=-9223372036854775808≤a∧a≤9223372036854775807
theorem rest_pos (a b:Int) (h:0 < a.tmod b):0 < a:=by
 refine Int.not_le.mp fun hn=>?_
 have h2:0≤(-a).tmod b:=Int.tmod_nonneg b (by omega)
 rw [Int.neg_tmod] at h2
 omega
theorem rest_neg (a b:Int) (h:a.tmod b < 0):a < 0:=by
 refine Int.not_le.mp fun hn=>?_
 have:=Int.tmod_nonneg b hn
 omega
open Go.ChangeShapes Go.WideShapes Go.ChangeAt Go.RowKit
set_option linter.unusedVariables false

end Go.Proofs.YtmhkpjcdkjnlnaaGreatDoor
