/- The contracts of slices.Clone over histories and numbers, and of micro's stepFrom, Begin, First. -/
import Derived.Test.YtmhkpjcdkjnlnaaGreatDoorFWImem
import Derived.Lib.AppendZerosOnto
import Derived.Test.YtmhkpjcdkjnlnaaGreatDoorFWSx
import Derived.Test.YtmhkpjcdkjnlnaaGreatDoorFWEof
import Derived.Test.YtmhkpjcdkjnlnaaGreatDoorFWShd
import Derived.Test.YtmhkpjcdkjnlnaaGreatDoorFWSrl
import Derived.Laws.ResultCell
namespace Go.Proofs.YtmhkpjcdkjnlnaaGreatDoor
open Go.ChangeShapes Go.WideShapes Go.ChangeAt Go.RowKit
set_option linter.unusedVariables false

theorem nilT_no (t:Nat) (w:World):(binOp .eql 28 (.pointer (some ⟨t,0,none⟩)) (.pointer none)).run Tryz.prog w=.ok (.bool false) w:=by kernel_rfl
theorem HistAt.lt {w:World} {v:Value} {H:List Nat} (h:HistAt w v H):∀ x ∈ H,x < 4294967296:=fun x hx=>by
 obtain ⟨b,o,hp⟩:=RowsAt.mem h x hx
 exact hp.2

theorem andNot_sets (P Q:Nat→Bool) (n:Nat) (hn:n≤31):bits .andNot .u32 ((bset P n:Nat):Int) ((bset Q n:Nat):Int)=((bset (fun k=>P k && !Q k) n:Nat):Int):=by
 have hq:=bset_u32 Q hn
 rw [u32_andNot_nat _ _ (bset_u32 P hn) hq]
 congr 1
 refine Nat.eq_of_testBit_eq fun i=>?_
 have h2:(4294967295 - bset Q n).testBit i=(decide (i < 32) && !(bset Q n).testBit i):=by
  have:=Nat.testBit_two_pow_sub_succ (x:=bset Q n) (n:=32) (by omega) i
  rw [← this]
  congr 1
  omega
 rw [Nat.testBit_and,h2,bset_test,bset_test,bset_test]
 by_cases hi:i < n
 · have:i < 32:=by omega
   simp [hi,this]
 · simp [hi]
section
variable {w0:World} {M:Nat→Option Obj} {t g:Nat} {vs vt:Value} {C:Ch} {w:World} {vh ve vi vo:Value} {X:Se}
end

theorem npost_no {C:Ch} {w w':World} {e:Ending} (h:NPost C w e w') (hn:¬ chk hasTB C=.ok):Below w.heap.size w w'∧((∃ p,e=.returned (.tuple #[.pointer none,.iface 82 p])) ∨ ∃ p,e=.returned (.tuple #[.pointer none,.iface 106 p])):=by
 unfold NPost at h
 cases hc:chk hasTB C with
 | ok=>exact absurd hc hn
 | large =>
  rw [hc] at h
  exact ⟨h.1,.inl ⟨_,h.2⟩⟩
 | spot k c =>
  rw [hc] at h
  obtain ⟨hb,g,he,_⟩:=h
  exact ⟨hb,.inr ⟨_,he⟩⟩
theorem npost_yes {C:Ch} {w w':World} {e:Ending} (h:NPost C w e w') (hk:chk hasTB C=.ok):Below w.heap.size w w'∧∃ g,e=.returned (.tuple #[.pointer (some ⟨g,0,none⟩),.nilIface])∧w.heap.size≤g∧TreeAt w' g C:=by
 unfold NPost at h
 rw [hk] at h
 exact h
end Go.Proofs.YtmhkpjcdkjnlnaaGreatDoor
