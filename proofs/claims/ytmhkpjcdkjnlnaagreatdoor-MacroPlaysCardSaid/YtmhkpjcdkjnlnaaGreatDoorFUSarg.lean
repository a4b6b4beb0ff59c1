/- A []int and a []uint32 argument opened. -/
import Derived.Test.YtmhkpjcdkjnlnaaGreatDoorFUSrl
import Derived.Test.YtmhkpjcdkjnlnaaGreatDoorFUCarg
namespace Go.Proofs.YtmhkpjcdkjnlnaaGreatDoor
open Go.ChangeShapes Go.WideShapes Go.ChangeAt Go.RowKit
set_option linter.unusedVariables false

section
variable {H:Type} {enc:TypeId × Value→H} {W:World} {base:Nat}
set_option maxRecDepth 100000 in
theorem nums_of_arg {v:Value} {d:DataW H} {ps:List MemPlace} (hv:Value.okWide Tryz.prog W .any base 36 v) (h:DataW.Trod enc Tryz.prog W 0 (fun _=>true) true 36 v d ps) :
 ∃ l:List Int,ListAt W v l∧Short l.length:=by
 obtain ⟨fuel,hf⟩:=h
 obtain ⟨A,len,cap,rfl⟩:=okWide_slice Tryz.underlying36 hv
 have hf':DataW.trod enc Tryz.prog W 0 (fun _=>true) true fuel 36 [.slice A len cap]=some (d,ps):=by simpa [Value.cells] using hf
 exact ints_of hf'
end
end Go.Proofs.YtmhkpjcdkjnlnaaGreatDoor
