/- What holds of worlds and values, whatever function is called: blocks, slices of tokens, what the package-level variables hold. -/
import Derived.Test.YtmhkpjcdkjnlnaaGreatDoorRows
import Derived.Test.YtmhkpjcdkjnlnaaGreatDoorFUPpure
import Derived.Below
import Derived.BigQuiet
import Derived.Deep.QuietTactic
import Derived.Laws.IdiomStrings
import Derived.Laws.MakeOwn
import Derived.Laws.OwnMore
import Derived.Lib.Hide
import Derived.Lib.IndexBytes
import Derived.Lib.ItoaNum
import Derived.Lib.Join
import Derived.Lib.LaidTab
import Derived.Lib.ParseIntB
import Derived.Lib.Strings
import Derived.Maps.AppendAt
import Derived.OpenShut
import Derived.Outline
import Derived.OwnWalk
import Derived.ProofKit
import Derived.WalkKit
import Derived.WalkSmall
import Derived.WalkSpells
import Derived.Sort.Grow
import Derived.LaidMore
import Derived.LaidHandle
import Derived.LaidLaws
import Derived.Stop.LaidErr
import Derived.Stop.Joined
namespace Go.Proofs.YtmhkpjcdkjnlnaaGreatDoor
open Go.ChangeShapes Go.WideShapes Go.ChangeAt Go.RowKit
set_option linter.unusedVariables false

theorem ret_bool {a b:Bool} (h:a=b):Ending.returned (.bool a)=.returned (.bool b):=by rw [h]
theorem ret_int {k:IntKind} {a b:Int} (h:a=b):Ending.returned (.int k a)=.returned (.int k b):=by rw [h]
def bytes (l:List UInt8):ByteArray:=⟨l.toArray⟩
def textVals:List Value:=texts.map fun l=>.string (bytes l)
def Laid (w:World):Prop :=
 6 ≤ w.heap.size ∧ w.var? Tryz.prog "spinet/lex.texts" = some textVals.toArray ∧ True
  ∧ (∃ tp p, w.var? Tryz.prog "strconv.ErrRange" = some #[.iface tp p]) ∧ Lib.TabIs Tryz.prog w "internal/strconv.uint64pow10" .u64 Lib.pow10Tab
theorem g1 : Tryz.prog.globalNamed "spinet/lex.texts" = some 0 := by kernel_rfl
theorem g2 : Tryz.prog.globalNamed "internal/strconv.uint64pow10" = some 3 := by kernel_rfl
theorem g5 : Tryz.prog.globalNamed "strconv.ErrRange" = some 2 := by kernel_rfl
theorem Laid.below {B:Nat} {w w':World} (h:Laid w) (hb:Below B w w') (hB:6≤B):Laid w':=by
 obtain ⟨h0,h1,h2,⟨tp,p,h3⟩,h4⟩:=h
 refine ⟨Nat.le_trans h0 hb.size,var?_below hb g1 (by omega) h1,h2,⟨tp,p,var?_below hb g5 (by omega) h3⟩,?_⟩
 unfold Lib.TabIs at h4 ⊢
 exact var?_below hb g2 (by omega) h4
theorem Laid.after {w w':World} (h:Laid w) (hb:Below w.heap.size w w'):Laid w':=h.below hb h.1
theorem Laid.text {w:World} (h:Laid w) (k:Nat) (hk:k < 19):w.cell? ⟨0,k,none⟩=some (.string (bytes (texts.getD k []))):=by
 rw [World.var?_cell g1 h.2.1 k]
 have:k < textVals.length:=hk
 simp [textVals,List.getD,List.getElem?_eq_getElem (show k < texts.length from hk)]
def tokVal:Option (Tk × Nat)→Value
 | none=>.tuple #[.agg #[.int .i64 0,.int .i64 0,.int .i64 0],.int .i64 0,.bool false]
 | some (t,e)=>.tuple #[.agg #[.int .i64 t.1,.int .i64 t.2.1,.int .i64 t.2.2],.int .i64 e,.bool true]
theorem same_bytes (l:List UInt8) (s:ByteArray) (a b:Nat):((bytes l).toList == (s.extract a b).toList)=decide (l=mid s.data.toList a b):=by
 rw [Lib.toList_data,Lib.extract_toList,Bool.eq_iff_iff,beq_iff_eq]
 exact (decide_eq_true_iff (p:=l=mid s.data.toList a b)).symm
theorem below_drewN {B:Nat} {a w:World} (h:Below B a w) (n:Nat):Below B a (w.drewN n):=⟨h.os,h.tape,h.output,h.size,h.block⟩
theorem bcell {W w1:World} (hb:Below W.heap.size W w1):(∀ b o,b < W.heap.size→w1.cell? ⟨b,o,none⟩=W.cell? ⟨b,o,none⟩)∧(∀ b o,b < W.heap.size→w1.frozen? ⟨b,o,none⟩=W.frozen? ⟨b,o,none⟩) :=
 ⟨fun b o h=>hb.cell (p:=⟨b,o,none⟩) h,fun b o h=>hb.frozen (p:=⟨b,o,none⟩) h⟩
theorem neq_nil_nil (w:World):(binOp .neq 30 .nilIface .nilIface).run Tryz.prog w=.ok (.bool false) w:=by kernel_rfl
def Blk (w:World) (g:Nat) (t:TypeId) (cs:Array Value):Prop:=w.heap[g]?=some (.cells cs t (0,0))
theorem Blk.cell {w:World} {g:Nat} {t:TypeId} {cs:Array Value} (h:Blk w g t cs) (i:Nat):w.cell? ⟨g,i,none⟩=cs[i]?:=cell_of_row w g i cs t (0,0) h
theorem Blk.frozen {w:World} {g:Nat} {t:TypeId} {cs:Array Value} (h:Blk w g t cs) (i:Nat):w.frozen? ⟨g,i,none⟩=false:=by
 unfold Blk at h
 simp [World.frozen?,h]
theorem Blk.new (w:World) (t:TypeId) (cs:Array Value):Blk (w.alloc (.cells cs t)) w.heap.size t cs:=heap_alloc_new w _
theorem Blk.below {w w':World} {g:Nat} {t:TypeId} {cs:Array Value} {B:Nat} (h:Blk w g t cs) (hb:Below B w w') (hg:g < B):Blk w' g t cs:=(hb.block g hg).trans h
theorem Blk.drewN {w:World} {g:Nat} {t:TypeId} {cs:Array Value} (h:Blk w g t cs) (n:Nat):Blk (w.drewN n) g t cs:=h
theorem Blk.set_ {w:World} {g:Nat} {t:TypeId} {cs:Array Value} (h:Blk w g t cs) (i:Nat) (u:Value):Blk (w.setCell ⟨g,i,none⟩ u) g t (cs.setIfInBounds i u):=by
 unfold Blk at h ⊢
 simp [World.setCell,Array.getElem?_modify,h]
theorem Blk.set3 {w:World} {g:Nat} {t:TypeId} {x y z:Value} (h:Blk w g t #[x,y,z]) (a b c:Value) :
 Blk (((w.setCell ⟨g,0,none⟩ a).setCell ⟨g,1,none⟩ b).setCell ⟨g,2,none⟩ c) g t #[a,b,c]:=((h.set_ 0 a).set_ 1 b).set_ 2 c
theorem Blk.lt {w:World} {g:Nat} {t:TypeId} {cs:Array Value} (h:Blk w g t cs):g < w.heap.size:=by
 rcases Nat.lt_or_ge g w.heap.size with hlt | hge
 · exact hlt
 · unfold Blk at h; rw [Array.getElem?_eq_none hge] at h; cases h
theorem Blk.alloc {w:World} {g:Nat} {t:TypeId} {cs:Array Value} (h:Blk w g t cs) (o:Obj):Blk (w.alloc o) g t cs:=(Below.heap_alloc w o g h.lt).trans h
theorem Blk.facts3 {w:World} {g:Nat} {t:TypeId} {x y z:Value} (h:Blk w g t #[x,y,z]) :
 (w.cell? ⟨g,0,none⟩=some x∧w.cell? ⟨g,1,none⟩=some y∧w.cell? ⟨g,2,none⟩=some z)∧(w.frozen? ⟨g,0,none⟩=false∧w.frozen? ⟨g,1,none⟩=false∧w.frozen? ⟨g,2,none⟩=false) :=
 ⟨⟨h.cell 0,h.cell 1,h.cell 2⟩,h.frozen 0,h.frozen 1,h.frozen 2⟩
theorem results_tok {fn:Func} {r t u:Tmp} (hr:fn.results=#[.cell r 192,.tmp t,.tmp u]) (tmps:Array Value) (w:World) (g:Nat) (a b c:Value)
 (hp:tmps.getD r undef=.pointer (some ⟨g,0,none⟩)) (hB:Blk w g 192 #[a,b,c]) :
 (results fn tmps).run Tryz.prog w=.ok (.tuple #[.agg #[a,b,c],tmps.getD t undef,tmps.getD u undef]) w:=by
 have c0:=hB.cell 0
 have c1:=hB.cell 1
 have c2:=hB.cell 2
 simp at c0 c1 c2 hp
 simp [results,hr,hp,go_sem,c0,c1,c2]
theorem tokVal_at (r:Option (Tk × Nat)):∃ a b c d e,tokVal r=.tuple #[.agg #[.int .i64 a,.int .i64 b,.int .i64 c],.int .i64 d,.bool e]:=by
 cases r with
 | none=>exact ⟨0,0,0,0,false,rfl⟩
 | some x=>exact ⟨x.1.1,x.1.2.1,x.1.2.2,x.2,true,rfl⟩
def tkCells (t:Tk):List Value:=[.int .i64 t.1,.int .i64 t.2.1,.int .i64 t.2.2]
def tksCells (ts:List Tk):List Value:=ts.flatMap tkCells
theorem tksCells_snoc (ts:List Tk) (t:Tk):tksCells (ts ++ [t])=tksCells ts ++ tkCells t:=by simp [tksCells]
theorem only_of_below {a w:World} (h:Below a.heap.size a w) (row:Option Nat):a.grownBy w row:=⟨h.os,h.tape,h.output,h.size,fun i hi _=>h.block i hi⟩
theorem own_below {w w':World} {base:Nat} {e:TypeId} {size:Nat} {v:Value} {n:Nat} {xs:List Value} (h:w.ownsRow base e size v n xs) (hb:Below w.heap.size w w'):w'.ownsRow base e size v n xs:=by
 refine h.kept (only_of_below hb none) ?_
 by_cases hn:v.ownBlock=none
 · exact .inl hn
 · exact .inr hn
theorem Tryz.info40:(Tryz.prog.info? 192).map (fun i=>(i.zero,i.size,i.bytes))=some (some (.agg #[.int .i64 0,.int .i64 0,.int .i64 0]),3,24):=by kernel_rfl
theorem tk_one (t:Tk):∀ u ∈ tkCells t,u.oneCell'=true:=by
 intro u hu
 simp only [tkCells,List.mem_cons,List.mem_nil_iff,or_false] at hu
 rcases hu with rfl | rfl | rfl <;> rfl
theorem new_cells (w:World) (t:TypeId) (k:Tk) (g:Nat) (hg:w.heap.size=g):∀ j u,(tkCells k)[j]?=some u→(w.alloc (.cells #[.int .i64 k.1,.int .i64 k.2.1,.int .i64 k.2.2] t)).cell? ((⟨g,0,none⟩:Addr).add j)=some u:=by
 intro j u hj
 subst hg
 have hB:=Blk.new w t #[.int .i64 k.1,.int .i64 k.2.1,.int .i64 k.2.2]
 have ha:(⟨w.heap.size,0,none⟩:Addr).add j=⟨w.heap.size,j,none⟩:=by unfold Addr.add; split <;> simp_all
 rw [ha,hB.cell j,← hj]
 simp [tkCells]
theorem Blk.new_at (w:World) (t:TypeId) (cs:Array Value) (g:Nat) (hg:w.heap.size=g):Blk (w.alloc (.cells cs t)) g t cs:=hg ▸ Blk.new w t cs
def TokPost (R:List Tk × Int) (w:World) (e:Ending) (w':World):Prop :=
 Below w.heap.size w w'∧((R.2=-1∧∃ v,e=.returned (.tuple #[v,.nilIface])∧w'.ownsRow w.heap.size 192 3 v R.1.length (tksCells R.1))
  ∨ (∃ k g:Nat,R=([],(k:Int))∧e=.returned (.tuple #[.slice none 0 0,.iface 106 (.pointer (some ⟨g,0,none⟩))])∧w.heap.size≤g∧Blk w' g 108 #[.int .i64 k,.int .i64 2]))
theorem own_snoc {w2:World} {B:Nat} {v:Value} {ts:List Tk} {t:Tk} (h:w2.ownsRow B 192 3 v (ts.length+1) (tksCells ts ++ tkCells t)):w2.ownsRow B 192 3 v (ts ++ [t]).length (tksCells (ts ++ [t])):=by
 rw [tksCells_snoc]; simpa using h
def ToksAt (w:World) (v:Value) (ts:List Tk):Prop :=
 ∃ (A:Option Addr) (cap:Nat),v=.slice A ts.length cap∧ts.length≤cap∧∀ (i:Nat) (t:Tk),ts[i]?=some t→∃ b o:Nat,A=some ⟨b,o,none⟩∧b < w.heap.size ∧
  w.cell? ⟨b,o+i * 3,none⟩=some (.int .i64 t.1)∧w.cell? ⟨b,o+i * 3+1,none⟩=some (.int .i64 t.2.1)∧w.cell? ⟨b,o+i * 3+2,none⟩=some (.int .i64 t.2.2)
theorem ToksAt.below {w w':World} {v:Value} {ts:List Tk} (h:ToksAt w v ts) (hb:Below w.heap.size w w'):ToksAt w' v ts:=by
 obtain ⟨A,cap,hv,hc,hi⟩:=h
 refine ⟨A,cap,hv,hc,fun i t ht=>?_⟩
 obtain ⟨b,o,hA,hlt,h0,h1,h2⟩:=hi i t ht
 exact ⟨b,o,hA,Nat.lt_of_lt_of_le hlt hb.size,(hb.cell (p:=⟨b,_,none⟩) hlt).trans h0,(hb.cell (p:=⟨b,_,none⟩) hlt).trans h1,(hb.cell (p:=⟨b,_,none⟩) hlt).trans h2⟩
theorem tks_at (ts:List Tk):∀ (i:Nat) (t:Tk),ts[i]?=some t→(tksCells ts)[i * 3]?=some (.int .i64 t.1)∧(tksCells ts)[i * 3+1]?=some (.int .i64 t.2.1)∧(tksCells ts)[i * 3+2]?=some (.int .i64 t.2.2):=by
 induction ts with
 | nil=>intro i t h; simp at h
 | cons x r ih =>
  intro i t h
  have hc:tksCells (x :: r)=.int .i64 x.1 :: .int .i64 x.2.1 :: .int .i64 x.2.2 :: tksCells r:=rfl
  cases i with
  | zero=>simp at h; subst h; rw [hc]; exact ⟨rfl,rfl,rfl⟩
  | succ i =>
   simp at h
   obtain ⟨h0,h1,h2⟩:=ih i t h
   rw [hc,show (i+1) * 3=i * 3+3 from by omega]
   exact ⟨h0,h1,h2⟩
theorem ToksAt.of_own {w:World} {B:Nat} {v:Value} {ts:List Tk} (h:w.ownsRow B 192 3 v ts.length (tksCells ts)):ToksAt w v ts:=by
 rcases h.2 with ⟨rfl,hn⟩ | ⟨g,cap,cur,rfl,_,hg,hc,_,hs,ht⟩
 · have:ts=[]:=List.eq_nil_of_length_eq_zero hn
   subst this
   exact ⟨none,0,rfl,Nat.le_refl _,fun i t h=>by simp at h⟩
 · refine ⟨_,cap,rfl,hc,fun i t hi=>?_⟩
   obtain ⟨h0,h1,h2⟩:=tks_at ts i t hi
   have hB:Blk w g 192 cur:=hg
   have hl:i < ts.length:=(List.getElem?_eq_some_iff.1 hi).1
   have hcell:∀ j u,j < ts.length * 3→(tksCells ts)[j]?=some u→w.cell? ⟨g,0+j,none⟩=some u:=by
    intro j u hj hu
    rw [hB.cell,← hu,← ht,List.getElem?_take,if_pos (by omega)]
    simp
   exact ⟨g,0,rfl,hB.lt,hcell _ _ (by omega) h0,hcell _ _ (by omega) h1,hcell _ _ (by omega) h2⟩

def laid7 : List (String × DataW Unit) := [("math/bits.deBruijn32tab", Rows.laid_math_bits_deBruijn32tab), ("math/bits.deBruijn64tab", Rows.laid_math_bits_deBruijn64tab), ("internal/strconv.uint64pow10", Rows.laid_internal_strconv_uint64pow10), ("strconv.ErrRange", Rows.laid_strconv_ErrRange), ("strconv.ErrSyntax", Rows.laid_strconv_ErrSyntax), ("spinet/lex.texts", Rows.laid_spinet_lex_texts)]
theorem own:ownKnob Tryz.prog.godebug=none:=by kernel_rfl
theorem g7 : Tryz.prog.globalNamed "math/bits.deBruijn64tab" = some 5 := by kernel_rfl
theorem t1:(Tryz.prog.globals[0]?).map (·.type)=some 249:=by kernel_rfl
theorem t2:(Tryz.prog.globals[3]?).map (·.type)=some 291:=by kernel_rfl
theorem t5:(Tryz.prog.globals[2]?).map (·.type)=some 30:=by kernel_rfl
theorem c48:Tryz.prog.cellsOf 251=1:=by kernel_rfl
theorem c122:Tryz.prog.cellsOf 291=20:=by kernel_rfl
theorem c9:Tryz.prog.cellsOf 9=1:=by kernel_rfl
theorem c77:Tryz.prog.cellsOf 249=19:=by kernel_rfl

theorem door_met (os:Os) (args:Array Value):laidMetH Tryz.prog laid7 ((World.doorLaid Tryz.prog 67 os).forCall (fun _ _=>0) ⟨#[],args,[]⟩).memory :=
 laidMetH_of_parts3 (fuel:=8) (laidMet_of_run' 8 (by kernel_rfl) (by kernel_rfl)) (by kernel_rfl) (by kernel_rfl)

theorem texts_datum:(Rows.laid_spinet_lex_texts:DataW Unit)=.agg (texts.map fun l=>.lit (.string l)):=rfl
theorem texts_read {W:World} {m:Nat} {l:List Value} {xs:List (DataW Unit × List MemPlace)} (hl:l.length=19) (hn:xs.length=19) (hx:xs.map (·.1)=texts.map fun l=>.lit (.string l))
 (hel:∀ i,i < 19→DataW.trod (fun _=>()) Tryz.prog W 0 (fun _=>true) false m 9 ((l.drop (i * 1)).take 1)=xs[i]?):l=textVals:=by
 refine List.ext_getElem? fun i=>?_
 by_cases hi:i < 19
 · have h1:=hel i hi
   have hxi:xs[i]?=some (xs[i]'(by omega)):=List.getElem?_eq_getElem (by omega)
   rw [hxi,Nat.mul_one] at h1
   obtain ⟨s,hs,hx2,_⟩:=DataW.trod_string Tryz.underlying9 h1
   rw [List.drop_eq_getElem_cons (by omega:i < l.length)] at hs
   simp only [List.take_succ_cons,List.take_zero,List.cons.injEq,and_true] at hs
   have h2:(xs.map (·.1))[i]?=some (.lit (.string s.data.toList)):=by rw [List.getElem?_map,hxi,hx2]; rfl
   rw [hx,List.getElem?_map,List.getElem?_eq_getElem (show i < texts.length from hi)] at h2
   simp only [Option.map_some,Option.some.injEq,DataW.lit.injEq,Lit.string.injEq] at h2
   rw [List.getElem?_eq_getElem (by omega:i < l.length),hs]
   unfold textVals
   rw [List.getElem?_map,List.getElem?_eq_getElem (show i < texts.length from hi),h2]
   simp only [Option.map_some,bytes,Lib.mk_data]
 · rw [List.getElem?_eq_none (by omega),List.getElem?_eq_none (show textVals.length≤i by have:textVals.length=19:=rfl; omega)]

theorem laid_of_row {W:World} (h:laidMetH Tryz.prog laid7 W):Laid W:=by
 have hp:laidMet Tryz.prog laid7 W:=h
 have hp1:=laidMet.tail hp
 have hp2:=laidMet.tail hp1
 have hp3:=laidMet.tail hp2
 have hp4:=laidMet.tail hp3
 have hp5:=laidMet.tail hp4
 refine ⟨?_,?_,?_,?_,?_⟩
 · obtain ⟨ps,⟨g,t,cs,fuel,p,q,hg,ht,hv,_⟩,_⟩:=hp1
   have:=World.var?_cell hg hv
   obtain rfl:=Option.some.inj (g7.symm.trans hg)
   unfold World.var? at hv
   rw [g7] at hv
   simp only [Option.bind_some] at hv
   rcases Nat.lt_or_ge 5 W.heap.size with h | h
   · omega
   · rw [Array.getElem?_eq_none h] at hv; cases hv
 · obtain ⟨ps,⟨g,t,cs,fuel,p,q,hg,ht,hv,hd,_⟩,_⟩:=hp5
   obtain rfl:=Option.some.inj (g1.symm.trans hg)
   obtain rfl:=Option.some.inj (t1.symm.trans ht)
   rw [hv]
   obtain ⟨xs,m,rfl,hx,hlen,hn,hel⟩:=DataW.trod_array Tryz.underlying249 hd
   rw [c77] at hlen
   rw [c9] at hel
   rw [texts_datum] at hx
   simp only [Prod.mk.injEq,DataW.agg.injEq] at hx
   have:=texts_read hlen hn hx.1.symm hel
   rw [← this]
 · trivial
 · obtain ⟨ps,⟨g,t,cs,fuel,p,q,hg,ht,hv,hd,_⟩,_⟩:=hp3
   obtain rfl:=Option.some.inj (g5.symm.trans hg)
   obtain rfl:=Option.some.inj (t5.symm.trans ht)
   obtain ⟨f1,u,v,hcs,_,_⟩:=iface_of_trod Tryz.underlying30 hd
   obtain ⟨l⟩:=cs
   obtain rfl:l=_:=hcs
   exact ⟨u,v,hv⟩
 · exact Lib.tabIs_of_head g2 t2 Tryz.underlying291 Tryz.underlying251 c48 c122 hp2
end Go.Proofs.YtmhkpjcdkjnlnaaGreatDoor
