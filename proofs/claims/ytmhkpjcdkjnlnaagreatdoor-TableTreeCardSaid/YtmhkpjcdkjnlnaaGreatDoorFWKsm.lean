/- Blocks of five, six cells. No function is called in this text. -/
import Derived.Test.YtmhkpjcdkjnlnaaGreatDoorFWCarg
import Derived.Test.YtmhkpjcdkjnlnaaGreatDoorFWCref
import Derived.Test.YtmhkpjcdkjnlnaaGreatDoorFWCchk
import Derived.Laws.StructEq
namespace Go.Proofs.YtmhkpjcdkjnlnaaGreatDoor
open Go.ChangeShapes Go.WideShapes Go.ChangeAt Go.RowKit
set_option linter.unusedVariables false
theorem blk5_facts {w:World} {g t:Nat} {a b c d e:Value} (h:Blk w g t #[a,b,c,d,e]):(w.cell? ⟨g,0,none⟩=some a∧w.cell? ⟨g,1,none⟩=some b∧w.cell? ⟨g,2,none⟩=some c∧w.cell? ⟨g,3,none⟩=some d∧w.cell? ⟨g,4,none⟩=some e)∧w.frozen? ⟨g,0,none⟩=false∧w.frozen? ⟨g,1,none⟩=false∧w.frozen? ⟨g,2,none⟩=false∧w.frozen? ⟨g,3,none⟩=false∧w.frozen? ⟨g,4,none⟩=false :=
 ⟨⟨h.cell 0,h.cell 1,h.cell 2,h.cell 3,h.cell 4⟩,h.frozen 0,h.frozen 1,h.frozen 2,h.frozen 3,h.frozen 4⟩

theorem few_sms {C:Ch} (h:fewB C=true) {k:Nat} (hk:k < C.sts.length):(C.sts.getD k noSt).ini.length≤1000∧(C.sts.getD k noSt).ent.length≤1000∧(C.sts.getD k noSt).exi.length≤1000:=by
 have:=(few_parts h).2.2.1 k hk
 unfold fewStB at this
 simp only [Bool.and_eq_true,decide_eq_true_eq] at this
 have a:=(fewActs_parts this.1.1).1
 have b:=(fewActs_parts this.1.2).1
 omega
theorem few_smt {C:Ch} (h:fewB C=true) {k:Nat} (hk:k < C.trs.length):(C.trs.getD k noTr).tgts.length≤1000∧(C.trs.getD k noTr).acts.length≤1000:=by
 have:=(few_parts h).2.2.2 k hk
 unfold fewTrB at this
 simp only [Bool.and_eq_true,decide_eq_true_eq] at this
 have a:=(fewActs_parts this.1.1).1
 omega
end Go.Proofs.YtmhkpjcdkjnlnaaGreatDoor
