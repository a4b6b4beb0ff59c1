/- The contracts of the document's small functions for layer 4: whole, truth, two. -/
import Derived.Test.YtmhkpjcdkjnlnaaGreatDoorFWErul
import Derived.Test.YtmhkpjcdkjnlnaaGreatDoorFWTmay
import Derived.Test.YtmhkpjcdkjnlnaaGreatDoorFWEtype
import Derived.Deep.RegionWith
import Derived.RegionTactic
namespace Go.Proofs.YtmhkpjcdkjnlnaaGreatDoor
open Go.ChangeShapes Go.WideShapes Go.ChangeAt Go.RowKit
set_option linter.unusedVariables false

def W2 (w:World) (ak an bk bn:Int):World:=(w.alloc (.cells #[.int .i64 ak,.int .i64 an] 204)).alloc (.cells #[.int .i64 bk,.int .i64 bn] 204)

def W0 (w:World) (kd x a:Int):World:=(w.alloc (.cells #[.int .i64 0,.int .i64 0,.int .i64 0] 245)).alloc (.cells #[.int .i64 kd,.int .i64 x,.int .i64 a] 192)



theorem NumsAt.drewN {w:World} {v:Value} {xs:List Int} (h:NumsAt w v xs) (n:Nat):NumsAt (w.drewN n) v xs:=h



theorem ans_not (m:Md) {ts:List Tk} (h:mayP ts=false):ans m ts=.bad 2:=by unfold ans; rw [if_neg (by rw [h]; exact Bool.false_ne_true)]
set_option maxHeartbeats 1000000 in
theorem type_any (v:Value) (ts:List Tk) (vars:Int) (w:World) (hv:ToksAt w v ts) (hl:ts.length≤1000) (hn:∀ t ∈ ts,t.2.1≤9223372036854775807):Calls Tryz.prog 143 #[v,.int .i64 vars] w (TyPost (ans ⟨true,[],vars⟩ ts) w):=by
 cases hm:mayP ts with
 | true=>exact type_may v ts vars w hv hn hm
 | false =>
  have HM:=Lib.hid (may_any v ts w hv (by omega))
  have HMP:=Lib.hid hm
  have HA:=Lib.hid (ans_not ⟨true,[],vars⟩ hm)
  obtain ⟨A,cap,rfl,hc,hel⟩:=hv
  clear hel hm
  go_enter Tryz.func143,Tryz.ntmps143
  go_wp2_with fail
  refine HM.out.mono ?_
  rintro e w0 ⟨rfl,hb0⟩
  rw [HMP.out]
  have HB0:=Lib.hid hb0
  clear hb0
  go_wp2_with fail
  go_ret2
  rw [HA.out]
  exact ⟨HB0.out,rfl⟩
end Go.Proofs.YtmhkpjcdkjnlnaaGreatDoor
