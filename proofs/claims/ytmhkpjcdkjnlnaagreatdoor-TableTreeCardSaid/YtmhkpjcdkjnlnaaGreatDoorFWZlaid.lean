/- What the rows' condition on the listed variables gives the walks, and a world that meets it: the heap that the variables' own door leaves. -/
import Derived.Test.YtmhkpjcdkjnlnaaGreatDoorFWZgen
import Derived.LaidMore
import Derived.LaidHandle
import Derived.LaidLaws
import Derived.Stop.LaidErr
import Derived.Stop.Joined
namespace Go.Proofs.YtmhkpjcdkjnlnaaGreatDoor
open Go.ChangeShapes Go.WideShapes Go.ChangeAt Go.RowKit
set_option linter.unusedVariables false

def laid7 : List (String × DataW Unit) := [("math/bits.deBruijn32tab", Rows.laid_math_bits_deBruijn32tab), ("math/bits.deBruijn64tab", Rows.laid_math_bits_deBruijn64tab), ("internal/strconv.uint64pow10", Rows.laid_internal_strconv_uint64pow10), ("strconv.ErrRange", Rows.laid_strconv_ErrRange), ("strconv.ErrSyntax", Rows.laid_strconv_ErrSyntax), ("spinet/lex.texts", Rows.laid_spinet_lex_texts)]
theorem own:ownKnob Tryz.prog.godebug=none:=by kernel_rfl
theorem g7 : Tryz.prog.globalNamed "math/bits.deBruijn64tab" = some 5 := by kernel_rfl
theorem t1:(Tryz.prog.globals[0]?).map (·.type)=some 249:=by kernel_rfl
theorem t2:(Tryz.prog.globals[3]?).map (·.type)=some 291:=by kernel_rfl
theorem t5:(Tryz.prog.globals[2]?).map (·.type)=some 30:=by kernel_rfl
theorem c48:Tryz.prog.cellsOf 251=1:=by kernel_rfl
theorem c122:Tryz.prog.cellsOf 291=20:=by kernel_rfl
theorem c9:Tryz.prog.cellsOf 9=1:=by kernel_rfl
theorem c77:Tryz.prog.cellsOf 249=19:=by kernel_rfl

theorem door_met (os:Os) (args:Array Value):laidMetH Tryz.prog laid7 ((World.doorLaid Tryz.prog 67 os).forCall (fun _ _=>0) ⟨#[],args,[]⟩).memory :=
 laidMetH_of_parts3 (fuel:=8) (laidMet_of_run' 8 (by kernel_rfl) (by kernel_rfl)) (by kernel_rfl) (by kernel_rfl)

theorem texts_datum:(Rows.laid_spinet_lex_texts:DataW Unit)=.agg (texts.map fun l=>.lit (.string l)):=rfl
theorem texts_read {W:World} {m:Nat} {l:List Value} {xs:List (DataW Unit × List MemPlace)} (hl:l.length=19) (hn:xs.length=19) (hx:xs.map (·.1)=texts.map fun l=>.lit (.string l))
 (hel:∀ i,i < 19→DataW.trod (fun _=>()) Tryz.prog W 0 (fun _=>true) false m 9 ((l.drop (i * 1)).take 1)=xs[i]?):l=textVals:=by
 refine List.ext_getElem? fun i=>?_
 by_cases hi:i < 19
 · have h1:=hel i hi
   have hxi:xs[i]?=some (xs[i]'(by omega)):=List.getElem?_eq_getElem (by omega)
   rw [hxi,Nat.mul_one] at h1
   obtain ⟨s,hs,hx2,_⟩:=DataW.trod_string Tryz.underlying9 h1
   rw [List.drop_eq_getElem_cons (by omega:i < l.length)] at hs
   simp only [List.take_succ_cons,List.take_zero,List.cons.injEq,and_true] at hs
   have h2:(xs.map (·.1))[i]?=some (.lit (.string s.data.toList)):=by rw [List.getElem?_map,hxi,hx2]; rfl
   rw [hx,List.getElem?_map,List.getElem?_eq_getElem (show i < texts.length from hi)] at h2
   simp only [Option.map_some,Option.some.injEq,DataW.lit.injEq,Lit.string.injEq] at h2
   rw [List.getElem?_eq_getElem (by omega:i < l.length),hs]
   unfold textVals
   rw [List.getElem?_map,List.getElem?_eq_getElem (show i < texts.length from hi),h2]
   simp only [Option.map_some,bytes,Lib.mk_data]
 · rw [List.getElem?_eq_none (by omega),List.getElem?_eq_none (show textVals.length≤i by have:textVals.length=19:=rfl; omega)]

theorem laid_of_row {W:World} (h:laidMetH Tryz.prog laid7 W):Laid W:=by
 have hp:laidMet Tryz.prog laid7 W:=h
 have hp1:=laidMet.tail hp
 have hp2:=laidMet.tail hp1
 have hp3:=laidMet.tail hp2
 have hp4:=laidMet.tail hp3
 have hp5:=laidMet.tail hp4
 refine ⟨?_,?_,?_,?_,?_⟩
 · obtain ⟨ps,⟨g,t,cs,fuel,p,q,hg,ht,hv,_⟩,_⟩:=hp1
   have:=World.var?_cell hg hv
   obtain rfl:=Option.some.inj (g7.symm.trans hg)
   unfold World.var? at hv
   rw [g7] at hv
   simp only [Option.bind_some] at hv
   rcases Nat.lt_or_ge 5 W.heap.size with h | h
   · omega
   · rw [Array.getElem?_eq_none h] at hv; cases hv
 · obtain ⟨ps,⟨g,t,cs,fuel,p,q,hg,ht,hv,hd,_⟩,_⟩:=hp5
   obtain rfl:=Option.some.inj (g1.symm.trans hg)
   obtain rfl:=Option.some.inj (t1.symm.trans ht)
   rw [hv]
   obtain ⟨xs,m,rfl,hx,hlen,hn,hel⟩:=DataW.trod_array Tryz.underlying249 hd
   rw [c77] at hlen
   rw [c9] at hel
   rw [texts_datum] at hx
   simp only [Prod.mk.injEq,DataW.agg.injEq] at hx
   have:=texts_read hlen hn hx.1.symm hel
   rw [← this]
 · trivial
 · obtain ⟨ps,⟨g,t,cs,fuel,p,q,hg,ht,hv,hd,_⟩,_⟩:=hp3
   obtain rfl:=Option.some.inj (g5.symm.trans hg)
   obtain rfl:=Option.some.inj (t5.symm.trans ht)
   obtain ⟨f1,u,v,hcs,_,_⟩:=iface_of_trod Tryz.underlying30 hd
   obtain ⟨l⟩:=cs
   obtain rfl:l=_:=hcs
   exact ⟨u,v,hv⟩
 · exact Lib.tabIs_of_head g2 t2 Tryz.underlying291 Tryz.underlying251 c48 c122 hp2
end Go.Proofs.YtmhkpjcdkjnlnaaGreatDoor
