/- The contracts of the document's small functions for layer 4: whole, truth, two. -/
import Derived.Test.YtfgkcjmeiabdjaaGreatDoorFErul
import Derived.Test.YtfgkcjmeiabdjaaGreatDoorFTmay
namespace Go.Proofs.YtfgkcjmeiabdjaaGreatDoor
open Go.ChangeShapes Go.WideShapes Go.ChangeAt Go.RowKit
set_option linter.unusedVariables false

def valOf:Vl→Value
  | .ok k n=>.agg #[.int .i64 k,.int .i64 n,.int .i64 0]
  | .bad c=>.agg #[.int .i64 0,.int .i64 0,.int .i64 c]
theorem results_val {fn:Func} {r:Tmp} (hr:fn.results=#[.cell r 210]) (tmps:Array Value) (w:World) (g:Nat) (a b c:Value)
    (hp:tmps.getD r undef=.pointer (some ⟨g,0,none⟩)) (hB:Blk w g 210 #[a,b,c]) :
    (results fn tmps).run Tryz.prog w=.ok (.agg #[a,b,c]) w:=by
  have c0:=hB.cell 0
  have c1:=hB.cell 1
  have c2:=hB.cell 2
  simp at c0 c1 c2 hp
  simp [results,hr,hp,go_sem,c0,c1,c2]
theorem whole_val (n:Int) (w:World):Calls Tryz.prog 188 #[.int .i64 n] w fun e w'=>e=.returned (.agg #[.int .i64 1,.int .i64 n,.int .i64 0])∧Below w.heap.size w w':=by
  go_enter Tryz.func188,Tryz.ntmps188
  go_wp2
  refine bodyPost_ret (results_val Tryz.results188 _ _ w.heap.size _ _ _ (by rfl) (Blk.new w 210 _)) rfl ⟨rfl,(Below.refl _ _).alloc (Nat.le_refl _) _⟩
theorem truth_val (b:Bool) (w:World):Calls Tryz.prog 189 #[.bool b] w fun e w'=>e=.returned (.agg #[.int .i64 2,.int .i64 (truN b),.int .i64 0])∧Below w.heap.size w w':=by
  cases b
  all_goals
    go_enter Tryz.func189,Tryz.ntmps189
    go_wp2
    refine bodyPost_ret (results_val Tryz.results189 _ _ w.heap.size _ _ _ (by rfl) (Blk.new w 210 _)) rfl ⟨rfl,(Below.refl _ _).alloc (Nat.le_refl _) _⟩
theorem ret_val {v:Vl} {a b c:Int} (h:valOf v=.agg #[.int .i64 a,.int .i64 b,.int .i64 c]):Ending.returned (.agg #[.int .i64 a,.int .i64 b,.int .i64 c])=.returned (valOf v):=by rw [h]
theorem two_ne {kd ak an bk bn:Int} (h:ak ≠ bk):twoV kd ak an bk bn=.bad 8:=by unfold twoV; rw [if_pos h]
def W2 (w:World) (ak an bk bn:Int):World:=(w.alloc (.cells #[.int .i64 ak,.int .i64 an] 172)).alloc (.cells #[.int .i64 bk,.int .i64 bn] 172)
theorem w2_size (w:World) (ak an bk bn:Int):(W2 w ak an bk bn).heap.size=w.heap.size+1+1:=by simp [W2]
theorem w2_below (w:World) (ak an bk bn:Int):Below w.heap.size w (W2 w ak an bk bn):=((Below.refl w.heap.size w).alloc (Nat.le_refl _) _).alloc (by simp) _
set_option maxHeartbeats 2000000 in
set_option maxRecDepth 100000 in
theorem two_diff (kd ak an bk bn:Int) (w:World) (h:ak ≠ bk):Calls Tryz.prog 191 #[.int .i64 kd,.agg #[.int .i64 ak,.int .i64 an],.agg #[.int .i64 bk,.int .i64 bn]] w fun e w'=>e=.returned (valOf (twoV kd ak an bk bn))∧Below w.heap.size w w':=by
  have h1:(ak != bk)=true:=by simpa using h
  have h2:(ak == bk)=false:=by simpa using h
  have HT:=Lib.hid (two_ne (kd:=kd) (an:=an) (bn:=bn) h)
  clear h
  have HB:=Lib.hid (w2_below w ak an bk bn)
  go_enter Tryz.func191,Tryz.ntmps191
  go_wp2
  refine bodyPost_ret (results_val Tryz.results191 _ _ (w.heap.size+1+1) _ _ _ (by rfl) (Blk.new_at _ 210 _ _ (by simp))) rfl ⟨ret_val (by rw [HT.out]; rfl),HB.out.alloc HB.out.size _⟩
set_option maxHeartbeats 4000000 in
set_option maxRecDepth 100000 in
theorem two_10 (k an bn:Int) (w:World):Calls Tryz.prog 191 #[.int .i64 10,.agg #[.int .i64 k,.int .i64 an],.agg #[.int .i64 k,.int .i64 bn]] w fun e w'=>e=.returned (valOf (twoV 10 k an k bn))∧Below w.heap.size w w':=by
  have h1:(k != k)=false:=by simp
  have h2:(k == k)=true:=by simp
  have HB:=Lib.hid ((w2_below w k an k bn).alloc (w2_below w k an k bn).size (.cells #[.int .i64 0,.int .i64 0,.int .i64 0] 210))
  have HL:=Lib.hid (Blk.new_at (W2 w k an k bn) 210 #[.int .i64 0,.int .i64 0,.int .i64 0] (w.heap.size+1+1) (w2_size w k an k bn))
  go_enter Tryz.func191,Tryz.ntmps191
  go_wp2_with fail
  refine (truth_val _ _).mono ?_
  rintro e w1 ⟨rfl,hb1⟩
  have HX:=Lib.hid (HB.out.trans (hb1.mono HB.out.size))
  have HC:=Lib.hid (HL.out.below hb1 HL.out.lt)
  obtain ⟨⟨c0,c1,c2⟩,f0,f1,f2⟩:=HC.out.facts3
  clear hb1
  go_wp2_with fail
  refine bodyPost_ret (results_val Tryz.results191 _ _ (w.heap.size+1+1) _ _ _ (by rfl) (HC.out.set3 _ _ _)) rfl ⟨ret_val (by simp [twoV,tru,valOf]; rfl),((HX.out.setCell (by simp; omega) _).setCell (by simp; omega) _).setCell (by simp; omega) _⟩
set_option maxHeartbeats 4000000 in
set_option maxRecDepth 100000 in
theorem two_11 (k an bn:Int) (w:World):Calls Tryz.prog 191 #[.int .i64 11,.agg #[.int .i64 k,.int .i64 an],.agg #[.int .i64 k,.int .i64 bn]] w fun e w'=>e=.returned (valOf (twoV 11 k an k bn))∧Below w.heap.size w w':=by
  have h1:(k != k)=false:=by simp
  have h2:(k == k)=true:=by simp
  have HB:=Lib.hid ((w2_below w k an k bn).alloc (w2_below w k an k bn).size (.cells #[.int .i64 0,.int .i64 0,.int .i64 0] 210))
  have HL:=Lib.hid (Blk.new_at (W2 w k an k bn) 210 #[.int .i64 0,.int .i64 0,.int .i64 0] (w.heap.size+1+1) (w2_size w k an k bn))
  go_enter Tryz.func191,Tryz.ntmps191
  go_wp2_with fail
  refine (truth_val _ _).mono ?_
  rintro e w1 ⟨rfl,hb1⟩
  have HX:=Lib.hid (HB.out.trans (hb1.mono HB.out.size))
  have HC:=Lib.hid (HL.out.below hb1 HL.out.lt)
  obtain ⟨⟨c0,c1,c2⟩,f0,f1,f2⟩:=HC.out.facts3
  clear hb1
  go_wp2_with fail
  refine bodyPost_ret (results_val Tryz.results191 _ _ (w.heap.size+1+1) _ _ _ (by rfl) (HC.out.set3 _ _ _)) rfl ⟨ret_val (by simp [twoV,tru,valOf]; rfl),((HX.out.setCell (by simp; omega) _).setCell (by simp; omega) _).setCell (by simp; omega) _⟩
set_option maxHeartbeats 4000000 in
set_option maxRecDepth 100000 in
theorem two_3 (an bn:Int) (w:World):Calls Tryz.prog 191 #[.int .i64 3,.agg #[.int .i64 1,.int .i64 an],.agg #[.int .i64 1,.int .i64 bn]] w fun e w'=>e=.returned (valOf (twoV 3 1 an 1 bn))∧Below w.heap.size w w':=by
  have HB:=Lib.hid ((w2_below w 1 an 1 bn).alloc (w2_below w 1 an 1 bn).size (.cells #[.int .i64 0,.int .i64 0,.int .i64 0] 210))
  have HL:=Lib.hid (Blk.new_at (W2 w 1 an 1 bn) 210 #[.int .i64 0,.int .i64 0,.int .i64 0] (w.heap.size+1+1) (w2_size w 1 an 1 bn))
  go_enter Tryz.func191,Tryz.ntmps191
  go_wp2_with fail
  refine (radd_any an bn _).mono ?_
  rintro e w' ⟨rfl,rfl⟩
  go_wp2_with fail
  refine (whole_val _ _).mono ?_
  rintro e w1 ⟨rfl,hb1⟩
  have HX:=Lib.hid (HB.out.trans (hb1.mono HB.out.size))
  have HC:=Lib.hid (HL.out.below hb1 HL.out.lt)
  obtain ⟨⟨c0,c1,c2⟩,f0,f1,f2⟩:=HC.out.facts3
  clear hb1
  go_wp2_with fail
  refine bodyPost_ret (results_val Tryz.results191 _ _ (w.heap.size+1+1) _ _ _ (by rfl) (HC.out.set3 _ _ _)) rfl ⟨ret_val (by simp [twoV,valOf]),((HX.out.setCell (by simp; omega) _).setCell (by simp; omega) _).setCell (by simp; omega) _⟩
set_option maxHeartbeats 4000000 in
set_option maxRecDepth 100000 in
theorem two_4 (an bn:Int) (w:World):Calls Tryz.prog 191 #[.int .i64 4,.agg #[.int .i64 1,.int .i64 an],.agg #[.int .i64 1,.int .i64 bn]] w fun e w'=>e=.returned (valOf (twoV 4 1 an 1 bn))∧Below w.heap.size w w':=by
  have HB:=Lib.hid ((w2_below w 1 an 1 bn).alloc (w2_below w 1 an 1 bn).size (.cells #[.int .i64 0,.int .i64 0,.int .i64 0] 210))
  have HL:=Lib.hid (Blk.new_at (W2 w 1 an 1 bn) 210 #[.int .i64 0,.int .i64 0,.int .i64 0] (w.heap.size+1+1) (w2_size w 1 an 1 bn))
  go_enter Tryz.func191,Tryz.ntmps191
  go_wp2_with fail
  refine (rsub_any an bn _).mono ?_
  rintro e w' ⟨rfl,rfl⟩
  go_wp2_with fail
  refine (whole_val _ _).mono ?_
  rintro e w1 ⟨rfl,hb1⟩
  have HX:=Lib.hid (HB.out.trans (hb1.mono HB.out.size))
  have HC:=Lib.hid (HL.out.below hb1 HL.out.lt)
  obtain ⟨⟨c0,c1,c2⟩,f0,f1,f2⟩:=HC.out.facts3
  clear hb1
  go_wp2_with fail
  refine bodyPost_ret (results_val Tryz.results191 _ _ (w.heap.size+1+1) _ _ _ (by rfl) (HC.out.set3 _ _ _)) rfl ⟨ret_val (by simp [twoV,valOf]),((HX.out.setCell (by simp; omega) _).setCell (by simp; omega) _).setCell (by simp; omega) _⟩
set_option maxHeartbeats 4000000 in
set_option maxRecDepth 100000 in
theorem two_5 (an bn:Int) (w:World):Calls Tryz.prog 191 #[.int .i64 5,.agg #[.int .i64 1,.int .i64 an],.agg #[.int .i64 1,.int .i64 bn]] w fun e w'=>e=.returned (valOf (twoV 5 1 an 1 bn))∧Below w.heap.size w w':=by
  have HB:=Lib.hid ((w2_below w 1 an 1 bn).alloc (w2_below w 1 an 1 bn).size (.cells #[.int .i64 0,.int .i64 0,.int .i64 0] 210))
  have HL:=Lib.hid (Blk.new_at (W2 w 1 an 1 bn) 210 #[.int .i64 0,.int .i64 0,.int .i64 0] (w.heap.size+1+1) (w2_size w 1 an 1 bn))
  go_enter Tryz.func191,Tryz.ntmps191
  go_wp2_with fail
  refine (rmul_any an bn _).mono ?_
  rintro e w' ⟨rfl,rfl⟩
  go_wp2_with fail
  refine (whole_val _ _).mono ?_
  rintro e w1 ⟨rfl,hb1⟩
  have HX:=Lib.hid (HB.out.trans (hb1.mono HB.out.size))
  have HC:=Lib.hid (HL.out.below hb1 HL.out.lt)
  obtain ⟨⟨c0,c1,c2⟩,f0,f1,f2⟩:=HC.out.facts3
  clear hb1
  go_wp2_with fail
  refine bodyPost_ret (results_val Tryz.results191 _ _ (w.heap.size+1+1) _ _ _ (by rfl) (HC.out.set3 _ _ _)) rfl ⟨ret_val (by simp [twoV,valOf]),((HX.out.setCell (by simp; omega) _).setCell (by simp; omega) _).setCell (by simp; omega) _⟩
set_option maxHeartbeats 4000000 in
set_option maxRecDepth 100000 in
theorem two_6 (an bn:Int) (w:World) (hy:¬ bn=0) (ha:F64 an) (hb:F64 bn):Calls Tryz.prog 191 #[.int .i64 6,.agg #[.int .i64 1,.int .i64 an],.agg #[.int .i64 1,.int .i64 bn]] w fun e w'=>e=.returned (valOf (twoV 6 1 an 1 bn))∧Below w.heap.size w w':=by
  have hy2:(bn == 0)=false:=by simpa using hy
  have HY:=Lib.hid hy
  have HFA:=Lib.hid ha
  have HFB:=Lib.hid hb
  clear hy ha hb
  have HB:=Lib.hid ((w2_below w 1 an 1 bn).alloc (w2_below w 1 an 1 bn).size (.cells #[.int .i64 0,.int .i64 0,.int .i64 0] 210))
  have HL:=Lib.hid (Blk.new_at (W2 w 1 an 1 bn) 210 #[.int .i64 0,.int .i64 0,.int .i64 0] (w.heap.size+1+1) (w2_size w 1 an 1 bn))
  go_enter Tryz.func191,Tryz.ntmps191
  go_wp2_with fail
  refine (rdiv_any an bn _ HY.out HFA.out HFB.out).mono ?_
  rintro e w' ⟨rfl,rfl⟩
  go_wp2_with fail
  refine (whole_val _ _).mono ?_
  rintro e w1 ⟨rfl,hb1⟩
  have HX:=Lib.hid (HB.out.trans (hb1.mono HB.out.size))
  have HC:=Lib.hid (HL.out.below hb1 HL.out.lt)
  obtain ⟨⟨c0,c1,c2⟩,f0,f1,f2⟩:=HC.out.facts3
  clear hb1
  go_wp2_with fail
  refine bodyPost_ret (results_val Tryz.results191 _ _ (w.heap.size+1+1) _ _ _ (by rfl) (HC.out.set3 _ _ _)) rfl ⟨ret_val (by simp [twoV,valOf,HY.out]),((HX.out.setCell (by simp; omega) _).setCell (by simp; omega) _).setCell (by simp; omega) _⟩
set_option maxHeartbeats 4000000 in
set_option maxRecDepth 100000 in
theorem two_6z (an:Int) (w:World):Calls Tryz.prog 191 #[.int .i64 6,.agg #[.int .i64 1,.int .i64 an],.agg #[.int .i64 1,.int .i64 0]] w fun e w'=>e=.returned (valOf (twoV 6 1 an 1 0))∧Below w.heap.size w w':=by
  have HB:=Lib.hid (w2_below w 1 an 1 0)
  go_enter Tryz.func191,Tryz.ntmps191
  go_wp2
  refine bodyPost_ret (results_val Tryz.results191 _ _ (w.heap.size+1+1) _ _ _ (by rfl) (Blk.new_at _ 210 _ _ (by simp))) rfl ⟨ret_val (by simp [twoV,valOf]),HB.out.alloc HB.out.size _⟩
set_option maxHeartbeats 4000000 in
set_option maxRecDepth 100000 in
theorem two_7 (an bn:Int) (w:World) (hy:¬ bn=0) (ha:F64 an) (hb:F64 bn):Calls Tryz.prog 191 #[.int .i64 7,.agg #[.int .i64 1,.int .i64 an],.agg #[.int .i64 1,.int .i64 bn]] w fun e w'=>e=.returned (valOf (twoV 7 1 an 1 bn))∧Below w.heap.size w w':=by
  have hy2:(bn == 0)=false:=by simpa using hy
  have HY:=Lib.hid hy
  have HFA:=Lib.hid ha
  have HFB:=Lib.hid hb
  clear hy ha hb
  have HB:=Lib.hid ((w2_below w 1 an 1 bn).alloc (w2_below w 1 an 1 bn).size (.cells #[.int .i64 0,.int .i64 0,.int .i64 0] 210))
  have HL:=Lib.hid (Blk.new_at (W2 w 1 an 1 bn) 210 #[.int .i64 0,.int .i64 0,.int .i64 0] (w.heap.size+1+1) (w2_size w 1 an 1 bn))
  go_enter Tryz.func191,Tryz.ntmps191
  go_wp2_with fail
  refine (rmod_any an bn _ HY.out HFA.out HFB.out).mono ?_
  rintro e w' ⟨rfl,rfl⟩
  go_wp2_with fail
  refine (whole_val _ _).mono ?_
  rintro e w1 ⟨rfl,hb1⟩
  have HX:=Lib.hid (HB.out.trans (hb1.mono HB.out.size))
  have HC:=Lib.hid (HL.out.below hb1 HL.out.lt)
  obtain ⟨⟨c0,c1,c2⟩,f0,f1,f2⟩:=HC.out.facts3
  clear hb1
  go_wp2_with fail
  refine bodyPost_ret (results_val Tryz.results191 _ _ (w.heap.size+1+1) _ _ _ (by rfl) (HC.out.set3 _ _ _)) rfl ⟨ret_val (by simp [twoV,valOf,HY.out]),((HX.out.setCell (by simp; omega) _).setCell (by simp; omega) _).setCell (by simp; omega) _⟩
set_option maxHeartbeats 4000000 in
set_option maxRecDepth 100000 in
theorem two_7z (an:Int) (w:World):Calls Tryz.prog 191 #[.int .i64 7,.agg #[.int .i64 1,.int .i64 an],.agg #[.int .i64 1,.int .i64 0]] w fun e w'=>e=.returned (valOf (twoV 7 1 an 1 0))∧Below w.heap.size w w':=by
  have HB:=Lib.hid (w2_below w 1 an 1 0)
  go_enter Tryz.func191,Tryz.ntmps191
  go_wp2
  refine bodyPost_ret (results_val Tryz.results191 _ _ (w.heap.size+1+1) _ _ _ (by rfl) (Blk.new_at _ 210 _ _ (by simp))) rfl ⟨ret_val (by simp [twoV,valOf]),HB.out.alloc HB.out.size _⟩
set_option maxHeartbeats 4000000 in
set_option maxRecDepth 100000 in
theorem two_8 (an bn:Int) (w:World):Calls Tryz.prog 191 #[.int .i64 8,.agg #[.int .i64 1,.int .i64 an],.agg #[.int .i64 1,.int .i64 bn]] w fun e w'=>e=.returned (valOf (twoV 8 1 an 1 bn))∧Below w.heap.size w w':=by
  have HB:=Lib.hid ((w2_below w 1 an 1 bn).alloc (w2_below w 1 an 1 bn).size (.cells #[.int .i64 0,.int .i64 0,.int .i64 0] 210))
  have HL:=Lib.hid (Blk.new_at (W2 w 1 an 1 bn) 210 #[.int .i64 0,.int .i64 0,.int .i64 0] (w.heap.size+1+1) (w2_size w 1 an 1 bn))
  go_enter Tryz.func191,Tryz.ntmps191
  go_wp2_with fail
  refine (truth_val _ _).mono ?_
  rintro e w1 ⟨rfl,hb1⟩
  have HX:=Lib.hid (HB.out.trans (hb1.mono HB.out.size))
  have HC:=Lib.hid (HL.out.below hb1 HL.out.lt)
  obtain ⟨⟨c0,c1,c2⟩,f0,f1,f2⟩:=HC.out.facts3
  clear hb1
  go_wp2_with fail
  refine bodyPost_ret (results_val Tryz.results191 _ _ (w.heap.size+1+1) _ _ _ (by rfl) (HC.out.set3 _ _ _)) rfl ⟨ret_val (by simp [twoV,tru,valOf]),((HX.out.setCell (by simp; omega) _).setCell (by simp; omega) _).setCell (by simp; omega) _⟩
set_option maxHeartbeats 4000000 in
set_option maxRecDepth 100000 in
theorem two_9 (an bn:Int) (w:World):Calls Tryz.prog 191 #[.int .i64 9,.agg #[.int .i64 1,.int .i64 an],.agg #[.int .i64 1,.int .i64 bn]] w fun e w'=>e=.returned (valOf (twoV 9 1 an 1 bn))∧Below w.heap.size w w':=by
  have HB:=Lib.hid ((w2_below w 1 an 1 bn).alloc (w2_below w 1 an 1 bn).size (.cells #[.int .i64 0,.int .i64 0,.int .i64 0] 210))
  have HL:=Lib.hid (Blk.new_at (W2 w 1 an 1 bn) 210 #[.int .i64 0,.int .i64 0,.int .i64 0] (w.heap.size+1+1) (w2_size w 1 an 1 bn))
  go_enter Tryz.func191,Tryz.ntmps191
  go_wp2_with fail
  refine (truth_val _ _).mono ?_
  rintro e w1 ⟨rfl,hb1⟩
  have HX:=Lib.hid (HB.out.trans (hb1.mono HB.out.size))
  have HC:=Lib.hid (HL.out.below hb1 HL.out.lt)
  obtain ⟨⟨c0,c1,c2⟩,f0,f1,f2⟩:=HC.out.facts3
  clear hb1
  go_wp2_with fail
  refine bodyPost_ret (results_val Tryz.results191 _ _ (w.heap.size+1+1) _ _ _ (by rfl) (HC.out.set3 _ _ _)) rfl ⟨ret_val (by simp [twoV,tru,valOf]),((HX.out.setCell (by simp; omega) _).setCell (by simp; omega) _).setCell (by simp; omega) _⟩
set_option maxHeartbeats 4000000 in
set_option maxRecDepth 100000 in
theorem two_12n (an bn:Int) (w:World):Calls Tryz.prog 191 #[.int .i64 12,.agg #[.int .i64 1,.int .i64 an],.agg #[.int .i64 1,.int .i64 bn]] w fun e w'=>e=.returned (valOf (twoV 12 1 an 1 bn))∧Below w.heap.size w w':=by
  have HB:=Lib.hid (w2_below w 1 an 1 bn)
  go_enter Tryz.func191,Tryz.ntmps191
  go_wp2
  refine bodyPost_ret (results_val Tryz.results191 _ _ (w.heap.size+1+1) _ _ _ (by rfl) (Blk.new_at _ 210 _ _ (by simp))) rfl ⟨ret_val (by simp [twoV,valOf]),HB.out.alloc HB.out.size _⟩
set_option maxHeartbeats 4000000 in
set_option maxRecDepth 100000 in
theorem two_13n (an bn:Int) (w:World):Calls Tryz.prog 191 #[.int .i64 13,.agg #[.int .i64 1,.int .i64 an],.agg #[.int .i64 1,.int .i64 bn]] w fun e w'=>e=.returned (valOf (twoV 13 1 an 1 bn))∧Below w.heap.size w w':=by
  have HB:=Lib.hid (w2_below w 1 an 1 bn)
  go_enter Tryz.func191,Tryz.ntmps191
  go_wp2
  refine bodyPost_ret (results_val Tryz.results191 _ _ (w.heap.size+1+1) _ _ _ (by rfl) (Blk.new_at _ 210 _ _ (by simp))) rfl ⟨ret_val (by simp [twoV,valOf]),HB.out.alloc HB.out.size _⟩
set_option maxHeartbeats 4000000 in
set_option maxRecDepth 100000 in
theorem two_3t (an bn:Int) (w:World):Calls Tryz.prog 191 #[.int .i64 3,.agg #[.int .i64 2,.int .i64 an],.agg #[.int .i64 2,.int .i64 bn]] w fun e w'=>e=.returned (valOf (twoV 3 2 an 2 bn))∧Below w.heap.size w w':=by
  have HB:=Lib.hid (w2_below w 2 an 2 bn)
  go_enter Tryz.func191,Tryz.ntmps191
  go_wp2
  refine bodyPost_ret (results_val Tryz.results191 _ _ (w.heap.size+1+1) _ _ _ (by rfl) (Blk.new_at _ 210 _ _ (by simp))) rfl ⟨ret_val (by simp [twoV,valOf]),HB.out.alloc HB.out.size _⟩
set_option maxHeartbeats 4000000 in
set_option maxRecDepth 100000 in
theorem two_4t (an bn:Int) (w:World):Calls Tryz.prog 191 #[.int .i64 4,.agg #[.int .i64 2,.int .i64 an],.agg #[.int .i64 2,.int .i64 bn]] w fun e w'=>e=.returned (valOf (twoV 4 2 an 2 bn))∧Below w.heap.size w w':=by
  have HB:=Lib.hid (w2_below w 2 an 2 bn)
  go_enter Tryz.func191,Tryz.ntmps191
  go_wp2
  refine bodyPost_ret (results_val Tryz.results191 _ _ (w.heap.size+1+1) _ _ _ (by rfl) (Blk.new_at _ 210 _ _ (by simp))) rfl ⟨ret_val (by simp [twoV,valOf]),HB.out.alloc HB.out.size _⟩
set_option maxHeartbeats 4000000 in
set_option maxRecDepth 100000 in
theorem two_5t (an bn:Int) (w:World):Calls Tryz.prog 191 #[.int .i64 5,.agg #[.int .i64 2,.int .i64 an],.agg #[.int .i64 2,.int .i64 bn]] w fun e w'=>e=.returned (valOf (twoV 5 2 an 2 bn))∧Below w.heap.size w w':=by
  have HB:=Lib.hid (w2_below w 2 an 2 bn)
  go_enter Tryz.func191,Tryz.ntmps191
  go_wp2
  refine bodyPost_ret (results_val Tryz.results191 _ _ (w.heap.size+1+1) _ _ _ (by rfl) (Blk.new_at _ 210 _ _ (by simp))) rfl ⟨ret_val (by simp [twoV,valOf]),HB.out.alloc HB.out.size _⟩
set_option maxHeartbeats 4000000 in
set_option maxRecDepth 100000 in
theorem two_6t (an bn:Int) (w:World):Calls Tryz.prog 191 #[.int .i64 6,.agg #[.int .i64 2,.int .i64 an],.agg #[.int .i64 2,.int .i64 bn]] w fun e w'=>e=.returned (valOf (twoV 6 2 an 2 bn))∧Below w.heap.size w w':=by
  have HB:=Lib.hid (w2_below w 2 an 2 bn)
  go_enter Tryz.func191,Tryz.ntmps191
  go_wp2
  refine bodyPost_ret (results_val Tryz.results191 _ _ (w.heap.size+1+1) _ _ _ (by rfl) (Blk.new_at _ 210 _ _ (by simp))) rfl ⟨ret_val (by simp [twoV,valOf]),HB.out.alloc HB.out.size _⟩
set_option maxHeartbeats 4000000 in
set_option maxRecDepth 100000 in
theorem two_7t (an bn:Int) (w:World):Calls Tryz.prog 191 #[.int .i64 7,.agg #[.int .i64 2,.int .i64 an],.agg #[.int .i64 2,.int .i64 bn]] w fun e w'=>e=.returned (valOf (twoV 7 2 an 2 bn))∧Below w.heap.size w w':=by
  have HB:=Lib.hid (w2_below w 2 an 2 bn)
  go_enter Tryz.func191,Tryz.ntmps191
  go_wp2
  refine bodyPost_ret (results_val Tryz.results191 _ _ (w.heap.size+1+1) _ _ _ (by rfl) (Blk.new_at _ 210 _ _ (by simp))) rfl ⟨ret_val (by simp [twoV,valOf]),HB.out.alloc HB.out.size _⟩
set_option maxHeartbeats 4000000 in
set_option maxRecDepth 100000 in
theorem two_8t (an bn:Int) (w:World):Calls Tryz.prog 191 #[.int .i64 8,.agg #[.int .i64 2,.int .i64 an],.agg #[.int .i64 2,.int .i64 bn]] w fun e w'=>e=.returned (valOf (twoV 8 2 an 2 bn))∧Below w.heap.size w w':=by
  have HB:=Lib.hid (w2_below w 2 an 2 bn)
  go_enter Tryz.func191,Tryz.ntmps191
  go_wp2
  refine bodyPost_ret (results_val Tryz.results191 _ _ (w.heap.size+1+1) _ _ _ (by rfl) (Blk.new_at _ 210 _ _ (by simp))) rfl ⟨ret_val (by simp [twoV,valOf]),HB.out.alloc HB.out.size _⟩
set_option maxHeartbeats 4000000 in
set_option maxRecDepth 100000 in
theorem two_9t (an bn:Int) (w:World):Calls Tryz.prog 191 #[.int .i64 9,.agg #[.int .i64 2,.int .i64 an],.agg #[.int .i64 2,.int .i64 bn]] w fun e w'=>e=.returned (valOf (twoV 9 2 an 2 bn))∧Below w.heap.size w w':=by
  have HB:=Lib.hid (w2_below w 2 an 2 bn)
  go_enter Tryz.func191,Tryz.ntmps191
  go_wp2
  refine bodyPost_ret (results_val Tryz.results191 _ _ (w.heap.size+1+1) _ _ _ (by rfl) (Blk.new_at _ 210 _ _ (by simp))) rfl ⟨ret_val (by simp [twoV,valOf]),HB.out.alloc HB.out.size _⟩
set_option maxHeartbeats 4000000 in
set_option maxRecDepth 100000 in
theorem two_12p (an bn:Int) (w:World) (h:an=1):Calls Tryz.prog 191 #[.int .i64 12,.agg #[.int .i64 2,.int .i64 an],.agg #[.int .i64 2,.int .i64 bn]] w fun e w'=>e=.returned (valOf (twoV 12 2 an 2 bn))∧Below w.heap.size w w':=by
  have hy2:(an == 1)=true:=by simpa using h
  have HY:=Lib.hid h
  clear h
  have HB:=Lib.hid ((w2_below w 2 an 2 bn).alloc (w2_below w 2 an 2 bn).size (.cells #[.int .i64 0,.int .i64 0,.int .i64 0] 210))
  have HL:=Lib.hid (Blk.new_at (W2 w 2 an 2 bn) 210 #[.int .i64 0,.int .i64 0,.int .i64 0] (w.heap.size+1+1) (w2_size w 2 an 2 bn))
  go_enter Tryz.func191,Tryz.ntmps191
  go_wp2_with fail
  refine (truth_val _ _).mono ?_
  rintro e w1 ⟨rfl,hb1⟩
  have HX:=Lib.hid (HB.out.trans (hb1.mono HB.out.size))
  have HC:=Lib.hid (HL.out.below hb1 HL.out.lt)
  obtain ⟨⟨c0,c1,c2⟩,f0,f1,f2⟩:=HC.out.facts3
  clear hb1
  go_wp2_with fail
  refine bodyPost_ret (results_val Tryz.results191 _ _ (w.heap.size+1+1) _ _ _ (by rfl) (HC.out.set3 _ _ _)) rfl ⟨ret_val (by simp [twoV,tru,valOf,HY.out]; rfl),((HX.out.setCell (by simp; omega) _).setCell (by simp; omega) _).setCell (by simp; omega) _⟩
set_option maxHeartbeats 4000000 in
set_option maxRecDepth 100000 in
theorem two_12q (an bn:Int) (w:World) (h:¬ an=1):Calls Tryz.prog 191 #[.int .i64 12,.agg #[.int .i64 2,.int .i64 an],.agg #[.int .i64 2,.int .i64 bn]] w fun e w'=>e=.returned (valOf (twoV 12 2 an 2 bn))∧Below w.heap.size w w':=by
  have hy2:(an == 1)=false:=by simpa using h
  have HY:=Lib.hid h
  clear h
  have HB:=Lib.hid ((w2_below w 2 an 2 bn).alloc (w2_below w 2 an 2 bn).size (.cells #[.int .i64 0,.int .i64 0,.int .i64 0] 210))
  have HL:=Lib.hid (Blk.new_at (W2 w 2 an 2 bn) 210 #[.int .i64 0,.int .i64 0,.int .i64 0] (w.heap.size+1+1) (w2_size w 2 an 2 bn))
  go_enter Tryz.func191,Tryz.ntmps191
  go_wp2_with fail
  refine (truth_val _ _).mono ?_
  rintro e w1 ⟨rfl,hb1⟩
  have HX:=Lib.hid (HB.out.trans (hb1.mono HB.out.size))
  have HC:=Lib.hid (HL.out.below hb1 HL.out.lt)
  obtain ⟨⟨c0,c1,c2⟩,f0,f1,f2⟩:=HC.out.facts3
  clear hb1
  go_wp2_with fail
  refine bodyPost_ret (results_val Tryz.results191 _ _ (w.heap.size+1+1) _ _ _ (by rfl) (HC.out.set3 _ _ _)) rfl ⟨ret_val (by simp [twoV,tru,valOf,HY.out]),((HX.out.setCell (by simp; omega) _).setCell (by simp; omega) _).setCell (by simp; omega) _⟩
set_option maxHeartbeats 4000000 in
set_option maxRecDepth 100000 in
theorem two_13p (an bn:Int) (w:World) (h:an=1):Calls Tryz.prog 191 #[.int .i64 13,.agg #[.int .i64 2,.int .i64 an],.agg #[.int .i64 2,.int .i64 bn]] w fun e w'=>e=.returned (valOf (twoV 13 2 an 2 bn))∧Below w.heap.size w w':=by
  have hy2:(an == 1)=true:=by simpa using h
  have HY:=Lib.hid h
  clear h
  have HB:=Lib.hid ((w2_below w 2 an 2 bn).alloc (w2_below w 2 an 2 bn).size (.cells #[.int .i64 0,.int .i64 0,.int .i64 0] 210))
  have HL:=Lib.hid (Blk.new_at (W2 w 2 an 2 bn) 210 #[.int .i64 0,.int .i64 0,.int .i64 0] (w.heap.size+1+1) (w2_size w 2 an 2 bn))
  go_enter Tryz.func191,Tryz.ntmps191
  go_wp2_with fail
  refine (truth_val _ _).mono ?_
  rintro e w1 ⟨rfl,hb1⟩
  have HX:=Lib.hid (HB.out.trans (hb1.mono HB.out.size))
  have HC:=Lib.hid (HL.out.below hb1 HL.out.lt)
  obtain ⟨⟨c0,c1,c2⟩,f0,f1,f2⟩:=HC.out.facts3
  clear hb1
  go_wp2_with fail
  refine bodyPost_ret (results_val Tryz.results191 _ _ (w.heap.size+1+1) _ _ _ (by rfl) (HC.out.set3 _ _ _)) rfl ⟨ret_val (by simp [twoV,tru,valOf,HY.out]),((HX.out.setCell (by simp; omega) _).setCell (by simp; omega) _).setCell (by simp; omega) _⟩
set_option maxHeartbeats 4000000 in
set_option maxRecDepth 100000 in
theorem two_13q (an bn:Int) (w:World) (h:¬ an=1):Calls Tryz.prog 191 #[.int .i64 13,.agg #[.int .i64 2,.int .i64 an],.agg #[.int .i64 2,.int .i64 bn]] w fun e w'=>e=.returned (valOf (twoV 13 2 an 2 bn))∧Below w.heap.size w w':=by
  have hy2:(an == 1)=false:=by simpa using h
  have HY:=Lib.hid h
  clear h
  have HB:=Lib.hid ((w2_below w 2 an 2 bn).alloc (w2_below w 2 an 2 bn).size (.cells #[.int .i64 0,.int .i64 0,.int .i64 0] 210))
  have HL:=Lib.hid (Blk.new_at (W2 w 2 an 2 bn) 210 #[.int .i64 0,.int .i64 0,.int .i64 0] (w.heap.size+1+1) (w2_size w 2 an 2 bn))
  go_enter Tryz.func191,Tryz.ntmps191
  go_wp2_with fail
  refine (truth_val _ _).mono ?_
  rintro e w1 ⟨rfl,hb1⟩
  have HX:=Lib.hid (HB.out.trans (hb1.mono HB.out.size))
  have HC:=Lib.hid (HL.out.below hb1 HL.out.lt)
  obtain ⟨⟨c0,c1,c2⟩,f0,f1,f2⟩:=HC.out.facts3
  clear hb1
  go_wp2_with fail
  refine bodyPost_ret (results_val Tryz.results191 _ _ (w.heap.size+1+1) _ _ _ (by rfl) (HC.out.set3 _ _ _)) rfl ⟨ret_val (by simp [twoV,tru,valOf,HY.out]; rfl),((HX.out.setCell (by simp; omega) _).setCell (by simp; omega) _).setCell (by simp; omega) _⟩
end Go.Proofs.YtfgkcjmeiabdjaaGreatDoor
/- The contract of the document's End (spinetref04.End): the value of what ends at a place of a postfix, and where that begins. -/
namespace Go.Proofs.YtfgkcjmeiabdjaaGreatDoor
open Go.ChangeShapes Go.WideShapes Go.ChangeAt Go.RowKit
set_option linter.unusedVariables false

theorem vs_under (m:Md) (ts:List Tk):∀ (n i:Nat),i≤n→i≤ts.length→Valid ts i→∀ x S u VS,stk ts i=x :: S→vs m ts i=u :: VS→VS=vs m ts x.f
  | n,0,_,_,_,x,S,u,VS,h,_=>by cases h
  | 0,i+1,hn,_,_,_,_,_,_,_,_=>by omega
  | n+1,i+1,hn,hl,hv,x,S,u,VS,h,hu=>by
    rw [stk_succ] at h
    rw [vs_succ m (by omega)] at hu
    have hvl:=vs_len m ts i (by omega) (hv.mono (by omega))
    have h0:=(hv i (by omega)).1
    have h1:=(hv i (by omega)).2
    rcases tak_cases (ts.getD i (0,0,0)) with c | c | c | c
    · omega
    · rw [step0 _ c] at h
      rw [vstep0 _ c] at hu
      injection h with hx hS
      injection hu with hu1 hu2
      subst hx
      exact hu2.symm
    · rcases hs:stk ts i with _ | ⟨y,S'⟩
      · rw [hs,c] at h1; simp at h1
      · rcases hw:vs m ts i with _ | ⟨y',VS'⟩
        · rw [hs,hw] at hvl; simp at hvl
        · rw [hs,step1 _ _ c] at h
          rw [hw,vstep1 _ _ c] at hu
          injection h with hx hS
          injection hu with hu1 hu2
          have:=vs_under m ts n i (by omega) (by omega) (hv.mono (by omega)) y S' y' VS' hs hw
          subst hx; subst hu2
          exact this
    · rcases hs:stk ts i with _ | ⟨b,_ | ⟨a,S'⟩⟩
      · rw [hs,c] at h1; simp at h1
      · rw [hs,c] at h1; simp at h1
      · rcases hw:vs m ts i with _ | ⟨b',_ | ⟨a',VS'⟩⟩
        · rw [hs,hw] at hvl; simp at hvl
        · rw [hs,hw] at hvl; simp at hvl
        · rw [hs,step2 _ _ _ c] at h
          rw [hw,vstep2 _ _ _ c] at hu
          injection h with hx hS
          injection hu with hu1 hu2
          have h2:=stk_under ts i i (Nat.le_refl _) (hv.mono (by omega)) b (a :: S') hs
          have h3:=vs_under m ts n i (by omega) (by omega) (hv.mono (by omega)) b (a :: S') b' (a' :: VS') hs hw
          have h4:=vs_under m ts n b.f (by omega) (by omega) (hv.mono (by omega)) a S' a' VS' h2.2.symm h3.symm
          subst hx; subst hu2
          exact h4
theorem results_end {fn:Func} {r s:Tmp} (hr:fn.results=#[.cell r 210,.tmp s]) (tmps:Array Value) (w:World) (g:Nat) (a b c:Value)
    (hp:tmps.getD r undef=.pointer (some ⟨g,0,none⟩)) (hB:Blk w g 210 #[a,b,c]) :
    (results fn tmps).run Tryz.prog w=.ok (.tuple #[.agg #[a,b,c],tmps.getD s undef]) w:=by
  have c0:=hB.cell 0
  have c1:=hB.cell 1
  have c2:=hB.cell 2
  simp at c0 c1 c2 hp
  simp [results,hr,hp,go_sem,c0,c1,c2]
def EPost (u:Vl) (f:Nat) (w:World) (e:Ending) (w':World):Prop:=e=.returned (.tuple #[valOf u,.int .i64 (f:Int)])∧Below w.heap.size w w'
theorem ret_end {u:Vl} {f:Nat} {a b c:Int} (h:valOf u=.agg #[.int .i64 a,.int .i64 b,.int .i64 c]):Ending.returned (.tuple #[.agg #[.int .i64 a,.int .i64 b,.int .i64 c],.int .i64 (f:Int)])=.returned (.tuple #[valOf u,.int .i64 (f:Int)]):=by rw [h]
theorem tok_lies {w:World} {A:Option Addr} {cap k:Nat} {ts:List Tk} {t:Tk} (h:ToksAt w (.slice A ts.length cap) ts) (ht:ts[k]?=some t):∃ b o:Nat,A=some ⟨b,o,none⟩∧b < w.heap.size∧w.cell? ⟨b,o+k * 3,none⟩=some (.int .i64 t.1)∧w.cell? ⟨b,o+k * 3+1,none⟩=some (.int .i64 t.2.1)∧w.cell? ⟨b,o+k * 3+2,none⟩=some (.int .i64 t.2.2)∧ts.length≤cap:=by
  obtain ⟨A',cap',hv,hc,hi⟩:=h
  injection hv with h1 h2 h3
  subst h1
  subst h3
  obtain ⟨b,o,hA,hlt,c0,c1,c2⟩:=hi k t ht
  exact ⟨b,o,hA,hlt,c0,c1,c2,hc⟩
def W0 (w:World) (kd x a:Int):World:=(w.alloc (.cells #[.int .i64 0,.int .i64 0,.int .i64 0] 210)).alloc (.cells #[.int .i64 kd,.int .i64 x,.int .i64 a] 184)
theorem w0_below (w:World) (kd x a:Int):Below w.heap.size w (W0 w kd x a):=((Below.refl w.heap.size w).alloc (Nat.le_refl _) _).alloc (by simp) _
theorem w0_res (w:World) (kd x a:Int):Blk (W0 w kd x a) w.heap.size 210 #[.int .i64 0,.int .i64 0,.int .i64 0]:=(Blk.new w 210 _).alloc _
theorem w0_tok (w:World) (kd x a:Int):Blk (W0 w kd x a) (w.heap.size+1) 184 #[.int .i64 kd,.int .i64 x,.int .i64 a]:=Blk.new_at _ 184 _ _ (by simp)
set_option maxHeartbeats 4000000 in
set_option maxRecDepth 100000 in
theorem end_num (ts:List Tk) (b o cap k:Nat) (x vars:Int) (ve:Value) (w:World) (hk:k < ts.length) (hl:ts.length≤100) (ty:Bool) (hlt:b < w.heap.size) (c0:w.cell? ⟨b,o+k * 3,none⟩=some (.int .i64 1)) (c1:w.cell? ⟨b,o+k * 3+1,none⟩=some (.int .i64 x)) (c2:w.cell? ⟨b,o+k * 3+2,none⟩=some (.int .i64 0)) (hcc:ts.length≤cap) :
    Calls Tryz.prog 172 #[.slice (some ⟨b,o,none⟩) ts.length cap,.int .i64 (k:Int),ve,.int .i64 vars,.bool ty] w (EPost (.ok 1 x) k w):=by
  have hk2:(k:Int) < (ts.length:Int):=by omega
  have HB:=Lib.hid (w0_below w 1 x 0)
  have HR:=Lib.hid (w0_res w 1 x 0)
  have HT:=Lib.hid (w0_tok w 1 x 0)
  go_enter Tryz.func172,Tryz.ntmps172
  go_wp2_with fail
  refine (whole_val _ _).mono ?_
  rintro e w1 ⟨rfl,hb1⟩
  have HX:=Lib.hid (HB.out.trans (hb1.mono HB.out.size))
  have HC:=Lib.hid (HR.out.below hb1 HR.out.lt)
  obtain ⟨⟨r0,r1,r2⟩,f0,f1,f2⟩:=HC.out.facts3
  clear hb1
  go_wp2_with fail
  refine bodyPost_ret (results_end Tryz.results172 _ _ w.heap.size _ _ _ (by rfl) (HC.out.set3 _ _ _)) rfl ⟨ret_end (by rfl),((HX.out.setCell (by simp) _).setCell (by simp) _).setCell (by simp) _⟩
set_option maxHeartbeats 4000000 in
set_option maxRecDepth 100000 in
theorem end_var_t (ts:List Tk) (b o cap k:Nat) (x vars:Int) (ve:Value) (w:World) (hk:k < ts.length) (hl:ts.length≤100) (hx:x < vars) (hlt:b < w.heap.size) (c0:w.cell? ⟨b,o+k * 3,none⟩=some (.int .i64 2)) (c1:w.cell? ⟨b,o+k * 3+1,none⟩=some (.int .i64 x)) (c2:w.cell? ⟨b,o+k * 3+2,none⟩=some (.int .i64 0)) (hcc:ts.length≤cap) :
    Calls Tryz.prog 172 #[.slice (some ⟨b,o,none⟩) ts.length cap,.int .i64 (k:Int),ve,.int .i64 vars,.bool true] w (EPost (.ok 1 0) k w):=by
  have hk2:(k:Int) < (ts.length:Int):=by omega
  have HB:=Lib.hid (w0_below w 2 x 0)
  have HR:=Lib.hid (w0_res w 2 x 0)
  have HT:=Lib.hid (w0_tok w 2 x 0)
  have hd:decide (x < vars)=true:=by simpa using hx
  go_enter Tryz.func172,Tryz.ntmps172
  go_wp2_with fail
  refine (whole_val _ _).mono ?_
  rintro e w1 ⟨rfl,hb1⟩
  have HX:=Lib.hid (HB.out.trans (hb1.mono HB.out.size))
  have HC:=Lib.hid (HR.out.below hb1 HR.out.lt)
  obtain ⟨⟨r0,r1,r2⟩,f0,f1,f2⟩:=HC.out.facts3
  clear hb1
  go_wp2_with fail
  refine bodyPost_ret (results_end Tryz.results172 _ _ w.heap.size _ _ _ (by rfl) (HC.out.set3 _ _ _)) rfl ⟨ret_end (by rfl),((HX.out.setCell (by simp) _).setCell (by simp) _).setCell (by simp) _⟩
set_option maxHeartbeats 4000000 in
set_option maxRecDepth 100000 in
theorem end_var_tb (ts:List Tk) (b o cap k:Nat) (x vars:Int) (ve:Value) (w:World) (hk:k < ts.length) (hl:ts.length≤100) (hx:vars≤x) (hlt:b < w.heap.size) (c0:w.cell? ⟨b,o+k * 3,none⟩=some (.int .i64 2)) (c1:w.cell? ⟨b,o+k * 3+1,none⟩=some (.int .i64 x)) (c2:w.cell? ⟨b,o+k * 3+2,none⟩=some (.int .i64 0)) (hcc:ts.length≤cap) :
    Calls Tryz.prog 172 #[.slice (some ⟨b,o,none⟩) ts.length cap,.int .i64 (k:Int),ve,.int .i64 vars,.bool true] w (EPost (.bad 4) k w):=by
  have hk2:(k:Int) < (ts.length:Int):=by omega
  have HB:=Lib.hid (w0_below w 2 x 0)
  have HR:=Lib.hid (w0_res w 2 x 0)
  have HT:=Lib.hid (w0_tok w 2 x 0)
  have hd:decide (x < vars)=false:=by simpa using hx
  have hd2:¬ x < vars:=by omega
  go_enter Tryz.func172,Tryz.ntmps172
  go_wp2_with fail
  refine bodyPost_ret (results_end Tryz.results172 _ _ w.heap.size _ _ _ (by rfl) ((Blk.new w 210 _).alloc _)) rfl ⟨ret_end (by rfl),((Below.refl w.heap.size w).alloc (Nat.le_refl _) _).alloc (by simp) _⟩
set_option maxHeartbeats 4000000 in
set_option maxRecDepth 100000 in
theorem end_var_e (ts:List Tk) (b o cap k:Nat) (vars:Int) (w:World) (hk:k < ts.length) (hl:ts.length≤100) (vb vo vcap len j:Nat) (n:Int) (hlen:len≤1000) (hj:j < len) (hvb:vb < w.heap.size) (cv:w.cell? ⟨vb,vo+j,none⟩=some (.int .i64 n)) (hlt:b < w.heap.size) (c0:w.cell? ⟨b,o+k * 3,none⟩=some (.int .i64 2)) (c1:w.cell? ⟨b,o+k * 3+1,none⟩=some (.int .i64 (j:Int))) (c2:w.cell? ⟨b,o+k * 3+2,none⟩=some (.int .i64 0)) (hcc:ts.length≤cap) :
    Calls Tryz.prog 172 #[.slice (some ⟨b,o,none⟩) ts.length cap,.int .i64 (k:Int),.slice (some ⟨vb,vo,none⟩) len vcap,.int .i64 vars,.bool false] w (EPost (.ok 1 n) k w):=by
  have hk2:(k:Int) < (ts.length:Int):=by omega
  have HB:=Lib.hid (w0_below w 2 (j:Int) 0)
  have HR:=Lib.hid (w0_res w 2 (j:Int) 0)
  have HT:=Lib.hid (w0_tok w 2 (j:Int) 0)
  have hj2:(j:Int) < (len:Int):=by omega
  have cv2:(W0 w 2 (j:Int) 0).cell? ⟨vb,vo+j,none⟩=some (.int .i64 n):=(HB.out.cell (p:=⟨vb,vo+j,none⟩) hvb).trans cv
  have hd:decide ((j:Int) < (len:Int))=true:=by simpa using hj
  unfold W0 at cv2
  go_enter Tryz.func172,Tryz.ntmps172
  go_wp2_with fail
  refine (whole_val _ _).mono ?_
  rintro e w1 ⟨rfl,hb1⟩
  have HX:=Lib.hid (HB.out.trans (hb1.mono HB.out.size))
  have HC:=Lib.hid (HR.out.below hb1 HR.out.lt)
  obtain ⟨⟨r0,r1,r2⟩,f0,f1,f2⟩:=HC.out.facts3
  clear hb1
  go_wp2_with fail
  refine bodyPost_ret (results_end Tryz.results172 _ _ w.heap.size _ _ _ (by rfl) (HC.out.set3 _ _ _)) rfl ⟨ret_end (by rfl),((HX.out.setCell (by simp) _).setCell (by simp) _).setCell (by simp) _⟩
set_option maxHeartbeats 4000000 in
set_option maxRecDepth 100000 in
theorem end_var_eb (ts:List Tk) (b o cap k:Nat) (x vars:Int) (w:World) (hk:k < ts.length) (hl:ts.length≤100) (vA:Option Addr) (vcap len:Nat) (hlen:len≤1000) (hx:(len:Int)≤x) (hlt:b < w.heap.size) (c0:w.cell? ⟨b,o+k * 3,none⟩=some (.int .i64 2)) (c1:w.cell? ⟨b,o+k * 3+1,none⟩=some (.int .i64 x)) (c2:w.cell? ⟨b,o+k * 3+2,none⟩=some (.int .i64 0)) (hcc:ts.length≤cap) :
    Calls Tryz.prog 172 #[.slice (some ⟨b,o,none⟩) ts.length cap,.int .i64 (k:Int),.slice vA len vcap,.int .i64 vars,.bool false] w (EPost (.bad 4) k w):=by
  have hk2:(k:Int) < (ts.length:Int):=by omega
  have HB:=Lib.hid (w0_below w 2 x 0)
  have HR:=Lib.hid (w0_res w 2 x 0)
  have HT:=Lib.hid (w0_tok w 2 x 0)
  have hd:decide (x < (len:Int))=false:=by simpa using hx
  have hd2:¬ x < (len:Int):=by omega
  go_enter Tryz.func172,Tryz.ntmps172
  go_wp2_with fail
  refine bodyPost_ret (results_end Tryz.results172 _ _ w.heap.size _ _ _ (by rfl) ((Blk.new w 210 _).alloc _)) rfl ⟨ret_end (by rfl),((Below.refl w.heap.size w).alloc (Nat.le_refl _) _).alloc (by simp) _⟩
set_option maxHeartbeats 4000000 in
set_option maxRecDepth 100000 in
theorem end_true (ts:List Tk) (b o cap k:Nat) (vars:Int) (ve:Value) (w:World) (hk:k < ts.length) (hl:ts.length≤100) (ty:Bool) (hlt:b < w.heap.size) (c0:w.cell? ⟨b,o+k * 3,none⟩=some (.int .i64 15)) (c1:w.cell? ⟨b,o+k * 3+1,none⟩=some (.int .i64 0)) (c2:w.cell? ⟨b,o+k * 3+2,none⟩=some (.int .i64 0)) (hcc:ts.length≤cap) :
    Calls Tryz.prog 172 #[.slice (some ⟨b,o,none⟩) ts.length cap,.int .i64 (k:Int),ve,.int .i64 vars,.bool ty] w (EPost (tru true) k w):=by
  have hk2:(k:Int) < (ts.length:Int):=by omega
  have HB:=Lib.hid (w0_below w 15 0 0)
  have HR:=Lib.hid (w0_res w 15 0 0)
  have HT:=Lib.hid (w0_tok w 15 0 0)
  go_enter Tryz.func172,Tryz.ntmps172
  go_wp2_with fail
  refine (truth_val _ _).mono ?_
  rintro e w1 ⟨rfl,hb1⟩
  have HX:=Lib.hid (HB.out.trans (hb1.mono HB.out.size))
  have HC:=Lib.hid (HR.out.below hb1 HR.out.lt)
  obtain ⟨⟨r0,r1,r2⟩,f0,f1,f2⟩:=HC.out.facts3
  clear hb1
  go_wp2_with fail
  refine bodyPost_ret (results_end Tryz.results172 _ _ w.heap.size _ _ _ (by rfl) (HC.out.set3 _ _ _)) rfl ⟨ret_end (by rfl),((HX.out.setCell (by simp) _).setCell (by simp) _).setCell (by simp) _⟩
set_option maxHeartbeats 4000000 in
set_option maxRecDepth 100000 in
theorem end_false (ts:List Tk) (b o cap k:Nat) (vars:Int) (ve:Value) (w:World) (hk:k < ts.length) (hl:ts.length≤100) (ty:Bool) (hlt:b < w.heap.size) (c0:w.cell? ⟨b,o+k * 3,none⟩=some (.int .i64 16)) (c1:w.cell? ⟨b,o+k * 3+1,none⟩=some (.int .i64 0)) (c2:w.cell? ⟨b,o+k * 3+2,none⟩=some (.int .i64 0)) (hcc:ts.length≤cap) :
    Calls Tryz.prog 172 #[.slice (some ⟨b,o,none⟩) ts.length cap,.int .i64 (k:Int),ve,.int .i64 vars,.bool ty] w (EPost (tru false) k w):=by
  have hk2:(k:Int) < (ts.length:Int):=by omega
  have HB:=Lib.hid (w0_below w 16 0 0)
  have HR:=Lib.hid (w0_res w 16 0 0)
  have HT:=Lib.hid (w0_tok w 16 0 0)
  go_enter Tryz.func172,Tryz.ntmps172
  go_wp2_with fail
  refine (truth_val _ _).mono ?_
  rintro e w1 ⟨rfl,hb1⟩
  have HX:=Lib.hid (HB.out.trans (hb1.mono HB.out.size))
  have HC:=Lib.hid (HR.out.below hb1 HR.out.lt)
  obtain ⟨⟨r0,r1,r2⟩,f0,f1,f2⟩:=HC.out.facts3
  clear hb1
  go_wp2_with fail
  refine bodyPost_ret (results_end Tryz.results172 _ _ w.heap.size _ _ _ (by rfl) (HC.out.set3 _ _ _)) rfl ⟨ret_end (by rfl),((HX.out.setCell (by simp) _).setCell (by simp) _).setCell (by simp) _⟩
end Go.Proofs.YtfgkcjmeiabdjaaGreatDoor
/- The contract of the document's End at tokens that take one. -/
namespace Go.Proofs.YtfgkcjmeiabdjaaGreatDoor
open Go.ChangeShapes Go.WideShapes Go.ChangeAt Go.RowKit
set_option linter.unusedVariables false

set_option maxHeartbeats 4000000 in
set_option maxRecDepth 100000 in
theorem end_not_bad (ts:List Tk) (b o cap k f:Nat) (vars:Int) (ty:Bool) (ve:Value) (w:World) (hk:k < ts.length) (hk1:1≤k) (hl:ts.length≤100) (c:Int) (hc:c ≠ 0) (hlt:b < w.heap.size) (c0:w.cell? ⟨b,o+k * 3,none⟩=some (.int .i64 14)) (c1:w.cell? ⟨b,o+k * 3+1,none⟩=some (.int .i64 0)) (c2:w.cell? ⟨b,o+k * 3+2,none⟩=some (.int .i64 0)) (hcc:ts.length≤cap)
    (HIH:∀ w' y,Below w.heap.size w w'→y=((k - 1:Nat):Int)→Calls Tryz.prog 172 #[.slice (some ⟨b,o,none⟩) ts.length cap,.int .i64 y,ve,.int .i64 vars,.bool ty] w' (EPost (.bad c) f w')) :
    Calls Tryz.prog 172 #[.slice (some ⟨b,o,none⟩) ts.length cap,.int .i64 (k:Int),ve,.int .i64 vars,.bool ty] w (EPost (.bad c) f w):=by
  have hk2:(k:Int) < (ts.length:Int):=by omega
  have HB:=Lib.hid (w0_below w 14 0 0)
  have HR:=Lib.hid (w0_res w 14 0 0)
  have HT:=Lib.hid (w0_tok w 14 0 0)
  have HIH':=Lib.hid HIH
  clear HIH
  have hc2:(c != 0)=true:=by simpa using hc
  have hc3:(c == 0)=false:=by simpa using hc
  go_enter Tryz.func172,Tryz.ntmps172
  go_wp2_with fail
  refine (HIH'.out _ _ HB.out (by omega)).mono ?_
  rintro e w1 ⟨rfl,hb1⟩
  have HX1:=Lib.hid (HB.out.trans (hb1.mono HB.out.size))
  have HR1:=Lib.hid (HR.out.below hb1 HR.out.lt)
  have HT1:=Lib.hid (HT.out.below hb1 HT.out.lt)
  have hwz:w.heap.size+1 < w1.heap.size:=HT1.out.lt
  unfold valOf
  obtain ⟨⟨t0,t1,t2⟩,_⟩:=HT1.out.facts3
  obtain ⟨⟨r0,r1,r2⟩,f0,f1,f2⟩:=HR1.out.facts3
  have hlt0:w.heap.size < w1.heap.size:=by omega
  have hne0:¬ w.heap.size=w1.heap.size:=by omega
  obtain ⟨⟨q0,q1,q2⟩,g0,g1,g2⟩:=(HR1.out.alloc (.cells #[.int .i64 0,.int .i64 0,.int .i64 c] 210)).facts3
  clear hb1
  go_wp2_with fail
  refine bodyPost_ret (results_end Tryz.results172 _ _ w.heap.size _ _ _ (by rfl) ((HR1.out.set3 _ _ _).alloc _)) rfl ⟨ret_end (by rfl),(((HX1.out.setCell (by simp) _).setCell (by simp) _).setCell (by simp) _).alloc (by simp; omega) _⟩
set_option maxHeartbeats 4000000 in
set_option maxRecDepth 100000 in
theorem end_neg_bad (ts:List Tk) (b o cap k f:Nat) (vars:Int) (ty:Bool) (ve:Value) (w:World) (hk:k < ts.length) (hk1:1≤k) (hl:ts.length≤100) (c:Int) (hc:c ≠ 0) (hlt:b < w.heap.size) (c0:w.cell? ⟨b,o+k * 3,none⟩=some (.int .i64 19)) (c1:w.cell? ⟨b,o+k * 3+1,none⟩=some (.int .i64 0)) (c2:w.cell? ⟨b,o+k * 3+2,none⟩=some (.int .i64 0)) (hcc:ts.length≤cap)
    (HIH:∀ w' y,Below w.heap.size w w'→y=((k - 1:Nat):Int)→Calls Tryz.prog 172 #[.slice (some ⟨b,o,none⟩) ts.length cap,.int .i64 y,ve,.int .i64 vars,.bool ty] w' (EPost (.bad c) f w')) :
    Calls Tryz.prog 172 #[.slice (some ⟨b,o,none⟩) ts.length cap,.int .i64 (k:Int),ve,.int .i64 vars,.bool ty] w (EPost (.bad c) f w):=by
  have hk2:(k:Int) < (ts.length:Int):=by omega
  have HB:=Lib.hid (w0_below w 19 0 0)
  have HR:=Lib.hid (w0_res w 19 0 0)
  have HT:=Lib.hid (w0_tok w 19 0 0)
  have HIH':=Lib.hid HIH
  clear HIH
  have hc2:(c != 0)=true:=by simpa using hc
  have hc3:(c == 0)=false:=by simpa using hc
  go_enter Tryz.func172,Tryz.ntmps172
  go_wp2_with fail
  refine (HIH'.out _ _ HB.out (by omega)).mono ?_
  rintro e w1 ⟨rfl,hb1⟩
  have HX1:=Lib.hid (HB.out.trans (hb1.mono HB.out.size))
  have HR1:=Lib.hid (HR.out.below hb1 HR.out.lt)
  have HT1:=Lib.hid (HT.out.below hb1 HT.out.lt)
  have hwz:w.heap.size+1 < w1.heap.size:=HT1.out.lt
  unfold valOf
  obtain ⟨⟨t0,t1,t2⟩,_⟩:=HT1.out.facts3
  obtain ⟨⟨r0,r1,r2⟩,f0,f1,f2⟩:=HR1.out.facts3
  have hlt0:w.heap.size < w1.heap.size:=by omega
  have hne0:¬ w.heap.size=w1.heap.size:=by omega
  obtain ⟨⟨q0,q1,q2⟩,g0,g1,g2⟩:=(HR1.out.alloc (.cells #[.int .i64 0,.int .i64 0,.int .i64 c] 210)).facts3
  clear hb1
  go_wp2_with fail
  refine bodyPost_ret (results_end Tryz.results172 _ _ w.heap.size _ _ _ (by rfl) ((HR1.out.set3 _ _ _).alloc _)) rfl ⟨ret_end (by rfl),(((HX1.out.setCell (by simp) _).setCell (by simp) _).setCell (by simp) _).alloc (by simp; omega) _⟩
set_option maxHeartbeats 4000000 in
set_option maxRecDepth 100000 in
theorem end_not_ok (ts:List Tk) (b o cap k f:Nat) (vars:Int) (ty:Bool) (ve:Value) (w:World) (hk:k < ts.length) (hk1:1≤k) (hl:ts.length≤100) (n:Int) (hlt:b < w.heap.size) (c0:w.cell? ⟨b,o+k * 3,none⟩=some (.int .i64 14)) (c1:w.cell? ⟨b,o+k * 3+1,none⟩=some (.int .i64 0)) (c2:w.cell? ⟨b,o+k * 3+2,none⟩=some (.int .i64 0)) (hcc:ts.length≤cap)
    (HIH:∀ w' y,Below w.heap.size w w'→y=((k - 1:Nat):Int)→Calls Tryz.prog 172 #[.slice (some ⟨b,o,none⟩) ts.length cap,.int .i64 y,ve,.int .i64 vars,.bool ty] w' (EPost (.ok 2 n) f w')) :
    Calls Tryz.prog 172 #[.slice (some ⟨b,o,none⟩) ts.length cap,.int .i64 (k:Int),ve,.int .i64 vars,.bool ty] w (EPost (tru (n == 0)) f w):=by
  have hk2:(k:Int) < (ts.length:Int):=by omega
  have HB:=Lib.hid (w0_below w 14 0 0)
  have HR:=Lib.hid (w0_res w 14 0 0)
  have HT:=Lib.hid (w0_tok w 14 0 0)
  have HIH':=Lib.hid HIH
  clear HIH
  go_enter Tryz.func172,Tryz.ntmps172
  go_wp2_with fail
  refine (HIH'.out _ _ HB.out (by omega)).mono ?_
  rintro e w1 ⟨rfl,hb1⟩
  have HX1:=Lib.hid (HB.out.trans (hb1.mono HB.out.size))
  have HR1:=Lib.hid (HR.out.below hb1 HR.out.lt)
  have HT1:=Lib.hid (HT.out.below hb1 HT.out.lt)
  have hwz:w.heap.size+1 < w1.heap.size:=HT1.out.lt
  unfold valOf
  obtain ⟨⟨t0,t1,t2⟩,_⟩:=HT1.out.facts3
  obtain ⟨⟨r0,r1,r2⟩,f0,f1,f2⟩:=HR1.out.facts3
  clear hb1
  go_wp2_with fail
  refine (truth_val _ _).mono ?_
  rintro e w2 ⟨rfl,hb2⟩
  have HX2:=Lib.hid ((HX1.out.alloc HX1.out.size (.cells #[.int .i64 2,.int .i64 n,.int .i64 0] 210)).trans (hb2.mono (by simp; omega)))
  have HR2:=Lib.hid ((HR1.out.alloc _).below hb2 (HR1.out.alloc _).lt)
  obtain ⟨⟨r0,r1,r2⟩,f0,f1,f2⟩:=HR2.out.facts3
  clear hb2
  go_wp2_with fail
  refine bodyPost_ret (results_end Tryz.results172 _ _ w.heap.size _ _ _ (by rfl) (HR2.out.set3 _ _ _)) rfl ⟨ret_end (by rfl),((HX2.out.setCell (by simp) _).setCell (by simp) _).setCell (by simp) _⟩
set_option maxHeartbeats 4000000 in
set_option maxRecDepth 100000 in
theorem end_not_no (ts:List Tk) (b o cap k f:Nat) (vars:Int) (ty:Bool) (ve:Value) (w:World) (hk:k < ts.length) (hk1:1≤k) (hl:ts.length≤100) (n:Int) (hlt:b < w.heap.size) (c0:w.cell? ⟨b,o+k * 3,none⟩=some (.int .i64 14)) (c1:w.cell? ⟨b,o+k * 3+1,none⟩=some (.int .i64 0)) (c2:w.cell? ⟨b,o+k * 3+2,none⟩=some (.int .i64 0)) (hcc:ts.length≤cap)
    (HIH:∀ w' y,Below w.heap.size w w'→y=((k - 1:Nat):Int)→Calls Tryz.prog 172 #[.slice (some ⟨b,o,none⟩) ts.length cap,.int .i64 y,ve,.int .i64 vars,.bool ty] w' (EPost (.ok 1 n) f w')) :
    Calls Tryz.prog 172 #[.slice (some ⟨b,o,none⟩) ts.length cap,.int .i64 (k:Int),ve,.int .i64 vars,.bool ty] w (EPost (.bad 8) f w):=by
  have hk2:(k:Int) < (ts.length:Int):=by omega
  have HB:=Lib.hid (w0_below w 14 0 0)
  have HR:=Lib.hid (w0_res w 14 0 0)
  have HT:=Lib.hid (w0_tok w 14 0 0)
  have HIH':=Lib.hid HIH
  clear HIH
  go_enter Tryz.func172,Tryz.ntmps172
  go_wp2_with fail
  refine (HIH'.out _ _ HB.out (by omega)).mono ?_
  rintro e w1 ⟨rfl,hb1⟩
  have HX1:=Lib.hid (HB.out.trans (hb1.mono HB.out.size))
  have HR1:=Lib.hid (HR.out.below hb1 HR.out.lt)
  have HT1:=Lib.hid (HT.out.below hb1 HT.out.lt)
  have hwz:w.heap.size+1 < w1.heap.size:=HT1.out.lt
  unfold valOf
  obtain ⟨⟨t0,t1,t2⟩,_⟩:=HT1.out.facts3
  obtain ⟨⟨r0,r1,r2⟩,f0,f1,f2⟩:=HR1.out.facts3
  have hlt0:w.heap.size < w1.heap.size:=by omega
  have hne0:¬ w.heap.size=w1.heap.size:=by omega
  obtain ⟨⟨q0,q1,q2⟩,g0,g1,g2⟩:=(HR1.out.alloc (.cells #[.int .i64 1,.int .i64 n,.int .i64 0] 210)).facts3
  clear hb1
  go_wp2_with fail
  refine bodyPost_ret (results_end Tryz.results172 _ _ w.heap.size _ _ _ (by rfl) ((HR1.out.set3 _ _ _).alloc _)) rfl ⟨ret_end (by rfl),(((HX1.out.setCell (by simp) _).setCell (by simp) _).setCell (by simp) _).alloc (by simp; omega) _⟩
set_option maxHeartbeats 4000000 in
set_option maxRecDepth 100000 in
theorem end_neg_ok (ts:List Tk) (b o cap k f:Nat) (vars:Int) (ty:Bool) (ve:Value) (w:World) (hk:k < ts.length) (hk1:1≤k) (hl:ts.length≤100) (n:Int) (hlt:b < w.heap.size) (c0:w.cell? ⟨b,o+k * 3,none⟩=some (.int .i64 19)) (c1:w.cell? ⟨b,o+k * 3+1,none⟩=some (.int .i64 0)) (c2:w.cell? ⟨b,o+k * 3+2,none⟩=some (.int .i64 0)) (hcc:ts.length≤cap)
    (HIH:∀ w' y,Below w.heap.size w w'→y=((k - 1:Nat):Int)→Calls Tryz.prog 172 #[.slice (some ⟨b,o,none⟩) ts.length cap,.int .i64 y,ve,.int .i64 vars,.bool ty] w' (EPost (.ok 1 n) f w')) :
    Calls Tryz.prog 172 #[.slice (some ⟨b,o,none⟩) ts.length cap,.int .i64 (k:Int),ve,.int .i64 vars,.bool ty] w (EPost (.ok 1 (wrap64 (-n))) f w):=by
  have hk2:(k:Int) < (ts.length:Int):=by omega
  have HB:=Lib.hid (w0_below w 19 0 0)
  have HR:=Lib.hid (w0_res w 19 0 0)
  have HT:=Lib.hid (w0_tok w 19 0 0)
  have HIH':=Lib.hid HIH
  clear HIH
  go_enter Tryz.func172,Tryz.ntmps172
  go_wp2_with fail
  refine (HIH'.out _ _ HB.out (by omega)).mono ?_
  rintro e w1 ⟨rfl,hb1⟩
  have HX1:=Lib.hid (HB.out.trans (hb1.mono HB.out.size))
  have HR1:=Lib.hid (HR.out.below hb1 HR.out.lt)
  have HT1:=Lib.hid (HT.out.below hb1 HT.out.lt)
  have hwz:w.heap.size+1 < w1.heap.size:=HT1.out.lt
  unfold valOf
  obtain ⟨⟨t0,t1,t2⟩,_⟩:=HT1.out.facts3
  obtain ⟨⟨r0,r1,r2⟩,f0,f1,f2⟩:=HR1.out.facts3
  clear hb1
  go_wp2_with fail
  refine (rsub_any 0 n _).mono ?_
  rintro e w' ⟨rfl,rfl⟩
  go_wp2_with fail
  refine (whole_val _ _).mono ?_
  rintro e w2 ⟨rfl,hb2⟩
  have HX2:=Lib.hid ((HX1.out.alloc HX1.out.size (.cells #[.int .i64 1,.int .i64 n,.int .i64 0] 210)).trans (hb2.mono (by simp; omega)))
  have HR2:=Lib.hid ((HR1.out.alloc _).below hb2 (HR1.out.alloc _).lt)
  obtain ⟨⟨r0,r1,r2⟩,f0,f1,f2⟩:=HR2.out.facts3
  clear hb2
  go_wp2_with fail
  refine bodyPost_ret (results_end Tryz.results172 _ _ w.heap.size _ _ _ (by rfl) (HR2.out.set3 _ _ _)) rfl ⟨ret_end (by rfl),((HX2.out.setCell (by simp) _).setCell (by simp) _).setCell (by simp) _⟩
set_option maxHeartbeats 4000000 in
set_option maxRecDepth 100000 in
theorem end_neg_no (ts:List Tk) (b o cap k f:Nat) (vars:Int) (ty:Bool) (ve:Value) (w:World) (hk:k < ts.length) (hk1:1≤k) (hl:ts.length≤100) (n:Int) (hlt:b < w.heap.size) (c0:w.cell? ⟨b,o+k * 3,none⟩=some (.int .i64 19)) (c1:w.cell? ⟨b,o+k * 3+1,none⟩=some (.int .i64 0)) (c2:w.cell? ⟨b,o+k * 3+2,none⟩=some (.int .i64 0)) (hcc:ts.length≤cap)
    (HIH:∀ w' y,Below w.heap.size w w'→y=((k - 1:Nat):Int)→Calls Tryz.prog 172 #[.slice (some ⟨b,o,none⟩) ts.length cap,.int .i64 y,ve,.int .i64 vars,.bool ty] w' (EPost (.ok 2 n) f w')) :
    Calls Tryz.prog 172 #[.slice (some ⟨b,o,none⟩) ts.length cap,.int .i64 (k:Int),ve,.int .i64 vars,.bool ty] w (EPost (.bad 8) f w):=by
  have hk2:(k:Int) < (ts.length:Int):=by omega
  have HB:=Lib.hid (w0_below w 19 0 0)
  have HR:=Lib.hid (w0_res w 19 0 0)
  have HT:=Lib.hid (w0_tok w 19 0 0)
  have HIH':=Lib.hid HIH
  clear HIH
  go_enter Tryz.func172,Tryz.ntmps172
  go_wp2_with fail
  refine (HIH'.out _ _ HB.out (by omega)).mono ?_
  rintro e w1 ⟨rfl,hb1⟩
  have HX1:=Lib.hid (HB.out.trans (hb1.mono HB.out.size))
  have HR1:=Lib.hid (HR.out.below hb1 HR.out.lt)
  have HT1:=Lib.hid (HT.out.below hb1 HT.out.lt)
  have hwz:w.heap.size+1 < w1.heap.size:=HT1.out.lt
  unfold valOf
  obtain ⟨⟨t0,t1,t2⟩,_⟩:=HT1.out.facts3
  obtain ⟨⟨r0,r1,r2⟩,f0,f1,f2⟩:=HR1.out.facts3
  have hlt0:w.heap.size < w1.heap.size:=by omega
  have hne0:¬ w.heap.size=w1.heap.size:=by omega
  obtain ⟨⟨q0,q1,q2⟩,g0,g1,g2⟩:=(HR1.out.alloc (.cells #[.int .i64 2,.int .i64 n,.int .i64 0] 210)).facts3
  clear hb1
  go_wp2_with fail
  refine bodyPost_ret (results_end Tryz.results172 _ _ w.heap.size _ _ _ (by rfl) ((HR1.out.set3 _ _ _).alloc _)) rfl ⟨ret_end (by rfl),(((HX1.out.setCell (by simp) _).setCell (by simp) _).setCell (by simp) _).alloc (by simp; omega) _⟩
end Go.Proofs.YtfgkcjmeiabdjaaGreatDoor
/- The contract of the document's End at tokens that take two. -/
namespace Go.Proofs.YtfgkcjmeiabdjaaGreatDoor
open Go.ChangeShapes Go.WideShapes Go.ChangeAt Go.RowKit
set_option linter.unusedVariables false

theorem two_any (kd ak an bk bn:Int) (w:World) (hk:3≤kd∧kd≤13) (ha:Good (.ok ak an)) (hb:Good (.ok bk bn)):Calls Tryz.prog 191 #[.int .i64 kd,.agg #[.int .i64 ak,.int .i64 an],.agg #[.int .i64 bk,.int .i64 bn]] w fun e w'=>e=.returned (valOf (twoV kd ak an bk bn))∧Below w.heap.size w w':=by
  by_cases hne:ak=bk
  · subst hne
    rcases ha with ⟨rfl,fa⟩ | ⟨rfl,ha⟩
    · have fb:F64 bn:=by
        rcases hb with ⟨_,h⟩ | ⟨h,_⟩
        · exact h
        · cases h
      obtain rfl | rfl | rfl | rfl | rfl | rfl | rfl | rfl | rfl | rfl | rfl:kd=3 ∨ kd=4 ∨ kd=5 ∨ kd=6 ∨ kd=7 ∨ kd=8 ∨ kd=9 ∨ kd=10 ∨ kd=11 ∨ kd=12 ∨ kd=13:=by omega
      · exact two_3 an bn w
      · exact two_4 an bn w
      · exact two_5 an bn w
      · by_cases hz:bn=0
        · subst hz; exact two_6z an w
        · exact two_6 an bn w hz fa fb
      · by_cases hz:bn=0
        · subst hz; exact two_7z an w
        · exact two_7 an bn w hz fa fb
      · exact two_8 an bn w
      · exact two_9 an bn w
      · exact two_10 1 an bn w
      · exact two_11 1 an bn w
      · exact two_12n an bn w
      · exact two_13n an bn w
    · obtain rfl | rfl | rfl | rfl | rfl | rfl | rfl | rfl | rfl | rfl | rfl:kd=3 ∨ kd=4 ∨ kd=5 ∨ kd=6 ∨ kd=7 ∨ kd=8 ∨ kd=9 ∨ kd=10 ∨ kd=11 ∨ kd=12 ∨ kd=13:=by omega
      · exact two_3t an bn w
      · exact two_4t an bn w
      · exact two_5t an bn w
      · exact two_6t an bn w
      · exact two_7t an bn w
      · exact two_8t an bn w
      · exact two_9t an bn w
      · exact two_10 2 an bn w
      · exact two_11 2 an bn w
      · by_cases h:an=1
        · exact two_12p an bn w h
        · exact two_12q an bn w h
      · by_cases h:an=1
        · exact two_13p an bn w h
        · exact two_13q an bn w h
  · exact two_diff kd ak an bk bn w hne
set_option maxHeartbeats 4000000 in
set_option maxRecDepth 100000 in
theorem end_bin_abad (ts:List Tk) (b o cap k f fb:Nat) (kd vars:Int) (ty:Bool) (ve:Value) (w:World) (hk:k < ts.length) (hk1:1≤k) (hl:ts.length≤100) (hkd:3≤kd∧kd≤13) (hfb:1≤fb∧fb≤k) (c:Int) (hc:c ≠ 0) (bb:Vl) (hlt:b < w.heap.size) (c0:w.cell? ⟨b,o+k * 3,none⟩=some (.int .i64 kd)) (c1:w.cell? ⟨b,o+k * 3+1,none⟩=some (.int .i64 0)) (c2:w.cell? ⟨b,o+k * 3+2,none⟩=some (.int .i64 0)) (hcc:ts.length≤cap)
    (HIH:∀ w' y,Below w.heap.size w w'→y=((k - 1:Nat):Int)→Calls Tryz.prog 172 #[.slice (some ⟨b,o,none⟩) ts.length cap,.int .i64 y,ve,.int .i64 vars,.bool ty] w' (EPost (bb) fb w'))
    (HIH2:∀ w' y,Below w.heap.size w w'→y=((fb - 1:Nat):Int)→Calls Tryz.prog 172 #[.slice (some ⟨b,o,none⟩) ts.length cap,.int .i64 y,ve,.int .i64 vars,.bool ty] w' (EPost (.bad c) f w')) :
    Calls Tryz.prog 172 #[.slice (some ⟨b,o,none⟩) ts.length cap,.int .i64 (k:Int),ve,.int .i64 vars,.bool ty] w (EPost (.bad c) f w):=by
  have hk2:(k:Int) < (ts.length:Int):=by omega
  have HB:=Lib.hid (w0_below w kd 0 0)
  have HR:=Lib.hid (w0_res w kd 0 0)
  have HT:=Lib.hid (w0_tok w kd 0 0)
  have HIH':=Lib.hid HIH
  have HIH2':=Lib.hid HIH2
  have HKD:=Lib.hid hkd
  clear HIH HIH2
  have k1:(kd == 1)=false:=by simp; omega
  have k2:(kd == 2)=false:=by simp; omega
  have k15:(kd == 15)=false:=by simp; omega
  have k16:(kd == 16)=false:=by simp; omega
  have k14:(kd == 14)=false:=by simp; omega
  have k19:(kd == 19)=false:=by simp; omega
  clear hkd
  obtain ⟨x0,x1,x2,hbb⟩:∃ x0 x1 x2,valOf bb=.agg #[.int .i64 x0,.int .i64 x1,.int .i64 x2]:=by cases bb <;> exact ⟨_,_,_,rfl⟩
  have hc2:(c != 0)=true:=by simpa using hc
  have hc3:(c == 0)=false:=by simpa using hc
  go_enter Tryz.func172,Tryz.ntmps172
  go_wp2_with fail
  refine (HIH'.out _ _ HB.out (by omega)).mono ?_
  rintro e w1 ⟨rfl,hb1⟩
  have HX1:=Lib.hid (HB.out.trans (hb1.mono HB.out.size))
  have HR1:=Lib.hid (HR.out.below hb1 HR.out.lt)
  have HT1:=Lib.hid (HT.out.below hb1 HT.out.lt)
  have hwz:w.heap.size+1 < w1.heap.size:=HT1.out.lt
  rw [hbb]
  clear hb1
  go_wp2_with fail
  have HX1b:=Lib.hid (HX1.out.alloc HX1.out.size (.cells #[.int .i64 x0,.int .i64 x1,.int .i64 x2] 210))
  have HBB:=Lib.hid (Blk.new w1 210 #[.int .i64 x0,.int .i64 x1,.int .i64 x2])
  refine (HIH2'.out _ _ HX1b.out (by omega)).mono ?_
  rintro e w2 ⟨rfl,hb2⟩
  have HX2:=Lib.hid (HX1b.out.trans (hb2.mono HX1b.out.size))
  have HR2:=Lib.hid ((HR1.out.alloc _).below hb2 (HR1.out.alloc _).lt)
  have HT2:=Lib.hid ((HT1.out.alloc _).below hb2 (HT1.out.alloc _).lt)
  have HB2:=Lib.hid (HBB.out.below hb2 HBB.out.lt)
  have hw2:w1.heap.size < w2.heap.size:=HB2.out.lt
  have hlt0:w.heap.size < w2.heap.size:=by omega
  have hne0:¬ w.heap.size=w2.heap.size:=by omega
  have hlt1:w.heap.size+1 < w2.heap.size:=by omega
  unfold valOf
  obtain ⟨⟨t0,t1,t2⟩,_⟩:=HT2.out.facts3
  obtain ⟨⟨r0,r1,r2⟩,f0,f1,f2⟩:=HR2.out.facts3
  obtain ⟨⟨b0,b1,b2⟩,_⟩:=HB2.out.facts3
  clear hb2
  go_wp2_with fail
  refine bodyPost_ret (results_end Tryz.results172 _ _ w.heap.size _ _ _ (by rfl) ((HR2.out.set3 _ _ _).alloc _)) rfl ⟨ret_end (by rfl),(((HX2.out.setCell (by simp) _).setCell (by simp) _).setCell (by simp) _).alloc (by simp; omega) _⟩
set_option maxHeartbeats 4000000 in
set_option maxRecDepth 100000 in
theorem end_bin_bbad (ts:List Tk) (b o cap k f fb:Nat) (kd vars:Int) (ty:Bool) (ve:Value) (w:World) (hk:k < ts.length) (hk1:1≤k) (hl:ts.length≤100) (hkd:3≤kd∧kd≤13) (hfb:1≤fb∧fb≤k) (ak an:Int) (d:Int) (hd:d ≠ 0) (hlt:b < w.heap.size) (c0:w.cell? ⟨b,o+k * 3,none⟩=some (.int .i64 kd)) (c1:w.cell? ⟨b,o+k * 3+1,none⟩=some (.int .i64 0)) (c2:w.cell? ⟨b,o+k * 3+2,none⟩=some (.int .i64 0)) (hcc:ts.length≤cap)
    (HIH:∀ w' y,Below w.heap.size w w'→y=((k - 1:Nat):Int)→Calls Tryz.prog 172 #[.slice (some ⟨b,o,none⟩) ts.length cap,.int .i64 y,ve,.int .i64 vars,.bool ty] w' (EPost (.bad d) fb w'))
    (HIH2:∀ w' y,Below w.heap.size w w'→y=((fb - 1:Nat):Int)→Calls Tryz.prog 172 #[.slice (some ⟨b,o,none⟩) ts.length cap,.int .i64 y,ve,.int .i64 vars,.bool ty] w' (EPost (.ok ak an) f w')) :
    Calls Tryz.prog 172 #[.slice (some ⟨b,o,none⟩) ts.length cap,.int .i64 (k:Int),ve,.int .i64 vars,.bool ty] w (EPost (.bad d) f w):=by
  have hk2:(k:Int) < (ts.length:Int):=by omega
  have HB:=Lib.hid (w0_below w kd 0 0)
  have HR:=Lib.hid (w0_res w kd 0 0)
  have HT:=Lib.hid (w0_tok w kd 0 0)
  have HIH':=Lib.hid HIH
  have HIH2':=Lib.hid HIH2
  have HKD:=Lib.hid hkd
  clear HIH HIH2
  have k1:(kd == 1)=false:=by simp; omega
  have k2:(kd == 2)=false:=by simp; omega
  have k15:(kd == 15)=false:=by simp; omega
  have k16:(kd == 16)=false:=by simp; omega
  have k14:(kd == 14)=false:=by simp; omega
  have k19:(kd == 19)=false:=by simp; omega
  clear hkd
  have hd2:(d != 0)=true:=by simpa using hd
  have hd3:(d == 0)=false:=by simpa using hd
  go_enter Tryz.func172,Tryz.ntmps172
  go_wp2_with fail
  refine (HIH'.out _ _ HB.out (by omega)).mono ?_
  rintro e w1 ⟨rfl,hb1⟩
  have HX1:=Lib.hid (HB.out.trans (hb1.mono HB.out.size))
  have HR1:=Lib.hid (HR.out.below hb1 HR.out.lt)
  have HT1:=Lib.hid (HT.out.below hb1 HT.out.lt)
  have hwz:w.heap.size+1 < w1.heap.size:=HT1.out.lt
  unfold valOf
  clear hb1
  go_wp2_with fail
  have HX1b:=Lib.hid (HX1.out.alloc HX1.out.size (.cells #[.int .i64 0,.int .i64 0,.int .i64 d] 210))
  have HBB:=Lib.hid (Blk.new w1 210 #[.int .i64 0,.int .i64 0,.int .i64 d])
  refine (HIH2'.out _ _ HX1b.out (by omega)).mono ?_
  rintro e w2 ⟨rfl,hb2⟩
  have HX2:=Lib.hid (HX1b.out.trans (hb2.mono HX1b.out.size))
  have HR2:=Lib.hid ((HR1.out.alloc _).below hb2 (HR1.out.alloc _).lt)
  have HT2:=Lib.hid ((HT1.out.alloc _).below hb2 (HT1.out.alloc _).lt)
  have HB2:=Lib.hid (HBB.out.below hb2 HBB.out.lt)
  have hw2:w1.heap.size < w2.heap.size:=HB2.out.lt
  have hlt0:w.heap.size < w2.heap.size:=by omega
  have hne0:¬ w.heap.size=w2.heap.size:=by omega
  have hlt1:w.heap.size+1 < w2.heap.size:=by omega
  unfold valOf
  obtain ⟨⟨t0,t1,t2⟩,_⟩:=HT2.out.facts3
  obtain ⟨⟨r0,r1,r2⟩,f0,f1,f2⟩:=HR2.out.facts3
  obtain ⟨⟨b0,b1,b2⟩,_⟩:=HB2.out.facts3
  clear hb2
  go_wp2_with fail
  refine bodyPost_ret (results_end Tryz.results172 _ _ w.heap.size _ _ _ (by rfl) ((HR2.out.set3 _ _ _).alloc _)) rfl ⟨ret_end (by rfl),(((HX2.out.setCell (by simp) _).setCell (by simp) _).setCell (by simp) _).alloc (by simp; omega) _⟩
set_option maxHeartbeats 4000000 in
set_option maxRecDepth 100000 in
theorem end_bin_ok (ts:List Tk) (b o cap k f fb:Nat) (kd vars:Int) (ty:Bool) (ve:Value) (w:World) (hk:k < ts.length) (hk1:1≤k) (hl:ts.length≤100) (hkd:3≤kd∧kd≤13) (hfb:1≤fb∧fb≤k) (ak an:Int) (bk bn:Int) (HG:Good (.ok ak an)∧Good (.ok bk bn)) (vk vn:Int) (HV:twoV kd ak an bk bn=.ok vk vn) (hlt:b < w.heap.size) (c0:w.cell? ⟨b,o+k * 3,none⟩=some (.int .i64 kd)) (c1:w.cell? ⟨b,o+k * 3+1,none⟩=some (.int .i64 0)) (c2:w.cell? ⟨b,o+k * 3+2,none⟩=some (.int .i64 0)) (hcc:ts.length≤cap)
    (HIH:∀ w' y,Below w.heap.size w w'→y=((k - 1:Nat):Int)→Calls Tryz.prog 172 #[.slice (some ⟨b,o,none⟩) ts.length cap,.int .i64 y,ve,.int .i64 vars,.bool ty] w' (EPost (.ok bk bn) fb w'))
    (HIH2:∀ w' y,Below w.heap.size w w'→y=((fb - 1:Nat):Int)→Calls Tryz.prog 172 #[.slice (some ⟨b,o,none⟩) ts.length cap,.int .i64 y,ve,.int .i64 vars,.bool ty] w' (EPost (.ok ak an) f w')) :
    Calls Tryz.prog 172 #[.slice (some ⟨b,o,none⟩) ts.length cap,.int .i64 (k:Int),ve,.int .i64 vars,.bool ty] w (EPost (.ok vk vn) f w):=by
  have hk2:(k:Int) < (ts.length:Int):=by omega
  have HB:=Lib.hid (w0_below w kd 0 0)
  have HR:=Lib.hid (w0_res w kd 0 0)
  have HT:=Lib.hid (w0_tok w kd 0 0)
  have HIH':=Lib.hid HIH
  have HIH2':=Lib.hid HIH2
  have HKD:=Lib.hid hkd
  clear HIH HIH2
  have k1:(kd == 1)=false:=by simp; omega
  have k2:(kd == 2)=false:=by simp; omega
  have k15:(kd == 15)=false:=by simp; omega
  have k16:(kd == 16)=false:=by simp; omega
  have k14:(kd == 14)=false:=by simp; omega
  have k19:(kd == 19)=false:=by simp; omega
  clear hkd
  go_enter Tryz.func172,Tryz.ntmps172
  go_wp2_with fail
  refine (HIH'.out _ _ HB.out (by omega)).mono ?_
  rintro e w1 ⟨rfl,hb1⟩
  have HX1:=Lib.hid (HB.out.trans (hb1.mono HB.out.size))
  have HR1:=Lib.hid (HR.out.below hb1 HR.out.lt)
  have HT1:=Lib.hid (HT.out.below hb1 HT.out.lt)
  have hwz:w.heap.size+1 < w1.heap.size:=HT1.out.lt
  unfold valOf
  clear hb1
  go_wp2_with fail
  have HX1b:=Lib.hid (HX1.out.alloc HX1.out.size (.cells #[.int .i64 bk,.int .i64 bn,.int .i64 0] 210))
  have HBB:=Lib.hid (Blk.new w1 210 #[.int .i64 bk,.int .i64 bn,.int .i64 0])
  refine (HIH2'.out _ _ HX1b.out (by omega)).mono ?_
  rintro e w2 ⟨rfl,hb2⟩
  have HX2:=Lib.hid (HX1b.out.trans (hb2.mono HX1b.out.size))
  have HR2:=Lib.hid ((HR1.out.alloc _).below hb2 (HR1.out.alloc _).lt)
  have HT2:=Lib.hid ((HT1.out.alloc _).below hb2 (HT1.out.alloc _).lt)
  have HB2:=Lib.hid (HBB.out.below hb2 HBB.out.lt)
  have hw2:w1.heap.size < w2.heap.size:=HB2.out.lt
  have hlt0:w.heap.size < w2.heap.size:=by omega
  have hne0:¬ w.heap.size=w2.heap.size:=by omega
  have hlt1:w.heap.size+1 < w2.heap.size:=by omega
  unfold valOf
  obtain ⟨⟨t0,t1,t2⟩,_⟩:=HT2.out.facts3
  obtain ⟨⟨r0,r1,r2⟩,f0,f1,f2⟩:=HR2.out.facts3
  obtain ⟨⟨b0,b1,b2⟩,_⟩:=HB2.out.facts3
  clear hb2
  go_wp2_with fail
  have HX2b:=Lib.hid (HX2.out.alloc HX2.out.size (.cells #[.int .i64 ak,.int .i64 an,.int .i64 0] 210))
  refine (two_any kd ak an bk bn _ HKD.out HG.1 HG.2).mono ?_
  rintro e w3 ⟨rfl,hb3⟩
  rw [HV]
  have HX3:=Lib.hid (HX2b.out.trans (hb3.mono HX2b.out.size))
  have HR3:=Lib.hid ((HR2.out.alloc _).below hb3 (HR2.out.alloc _).lt)
  have hw3:w2.heap.size < w3.heap.size:=by have:=hb3.size; simp at this; omega
  have hlt3:w.heap.size < w3.heap.size:=by omega
  have hne3:¬ w.heap.size=w3.heap.size:=by omega
  unfold valOf
  obtain ⟨⟨r0,r1,r2⟩,f0,f1,f2⟩:=HR3.out.facts3
  clear hb3
  go_wp2_with fail
  refine bodyPost_ret (results_end Tryz.results172 _ _ w.heap.size _ _ _ (by rfl) ((HR3.out.set3 _ _ _).alloc _)) rfl ⟨ret_end (by rfl),(((HX3.out.setCell (by simp) _).setCell (by simp) _).setCell (by simp) _).alloc (by simp; omega) _⟩
set_option maxHeartbeats 4000000 in
set_option maxRecDepth 100000 in
theorem end_bin_b8 (ts:List Tk) (b o cap k f fb:Nat) (kd vars:Int) (ty:Bool) (ve:Value) (w:World) (hk:k < ts.length) (hk1:1≤k) (hl:ts.length≤100) (hkd:3≤kd∧kd≤13) (hfb:1≤fb∧fb≤k) (ak an:Int) (bk bn:Int) (HG:Good (.ok ak an)∧Good (.ok bk bn)) (vc:Int) (hvc:vc ≠ 9) (HV:twoV kd ak an bk bn=.bad vc) (hlt:b < w.heap.size) (c0:w.cell? ⟨b,o+k * 3,none⟩=some (.int .i64 kd)) (c1:w.cell? ⟨b,o+k * 3+1,none⟩=some (.int .i64 0)) (c2:w.cell? ⟨b,o+k * 3+2,none⟩=some (.int .i64 0)) (hcc:ts.length≤cap)
    (HIH:∀ w' y,Below w.heap.size w w'→y=((k - 1:Nat):Int)→Calls Tryz.prog 172 #[.slice (some ⟨b,o,none⟩) ts.length cap,.int .i64 y,ve,.int .i64 vars,.bool ty] w' (EPost (.ok bk bn) fb w'))
    (HIH2:∀ w' y,Below w.heap.size w w'→y=((fb - 1:Nat):Int)→Calls Tryz.prog 172 #[.slice (some ⟨b,o,none⟩) ts.length cap,.int .i64 y,ve,.int .i64 vars,.bool ty] w' (EPost (.ok ak an) f w')) :
    Calls Tryz.prog 172 #[.slice (some ⟨b,o,none⟩) ts.length cap,.int .i64 (k:Int),ve,.int .i64 vars,.bool ty] w (EPost (.bad vc) f w):=by
  have hk2:(k:Int) < (ts.length:Int):=by omega
  have HB:=Lib.hid (w0_below w kd 0 0)
  have HR:=Lib.hid (w0_res w kd 0 0)
  have HT:=Lib.hid (w0_tok w kd 0 0)
  have HIH':=Lib.hid HIH
  have HIH2':=Lib.hid HIH2
  have HKD:=Lib.hid hkd
  clear HIH HIH2
  have k1:(kd == 1)=false:=by simp; omega
  have k2:(kd == 2)=false:=by simp; omega
  have k15:(kd == 15)=false:=by simp; omega
  have k16:(kd == 16)=false:=by simp; omega
  have k14:(kd == 14)=false:=by simp; omega
  have k19:(kd == 19)=false:=by simp; omega
  clear hkd
  go_enter Tryz.func172,Tryz.ntmps172
  go_wp2_with fail
  refine (HIH'.out _ _ HB.out (by omega)).mono ?_
  rintro e w1 ⟨rfl,hb1⟩
  have HX1:=Lib.hid (HB.out.trans (hb1.mono HB.out.size))
  have HR1:=Lib.hid (HR.out.below hb1 HR.out.lt)
  have HT1:=Lib.hid (HT.out.below hb1 HT.out.lt)
  have hwz:w.heap.size+1 < w1.heap.size:=HT1.out.lt
  unfold valOf
  clear hb1
  go_wp2_with fail
  have HX1b:=Lib.hid (HX1.out.alloc HX1.out.size (.cells #[.int .i64 bk,.int .i64 bn,.int .i64 0] 210))
  have HBB:=Lib.hid (Blk.new w1 210 #[.int .i64 bk,.int .i64 bn,.int .i64 0])
  refine (HIH2'.out _ _ HX1b.out (by omega)).mono ?_
  rintro e w2 ⟨rfl,hb2⟩
  have HX2:=Lib.hid (HX1b.out.trans (hb2.mono HX1b.out.size))
  have HR2:=Lib.hid ((HR1.out.alloc _).below hb2 (HR1.out.alloc _).lt)
  have HT2:=Lib.hid ((HT1.out.alloc _).below hb2 (HT1.out.alloc _).lt)
  have HB2:=Lib.hid (HBB.out.below hb2 HBB.out.lt)
  have hw2:w1.heap.size < w2.heap.size:=HB2.out.lt
  have hlt0:w.heap.size < w2.heap.size:=by omega
  have hne0:¬ w.heap.size=w2.heap.size:=by omega
  have hlt1:w.heap.size+1 < w2.heap.size:=by omega
  unfold valOf
  obtain ⟨⟨t0,t1,t2⟩,_⟩:=HT2.out.facts3
  obtain ⟨⟨r0,r1,r2⟩,f0,f1,f2⟩:=HR2.out.facts3
  obtain ⟨⟨b0,b1,b2⟩,_⟩:=HB2.out.facts3
  clear hb2
  go_wp2_with fail
  have HX2b:=Lib.hid (HX2.out.alloc HX2.out.size (.cells #[.int .i64 ak,.int .i64 an,.int .i64 0] 210))
  refine (two_any kd ak an bk bn _ HKD.out HG.1 HG.2).mono ?_
  rintro e w3 ⟨rfl,hb3⟩
  rw [HV]
  have HX3:=Lib.hid (HX2b.out.trans (hb3.mono HX2b.out.size))
  have HR3:=Lib.hid ((HR2.out.alloc _).below hb3 (HR2.out.alloc _).lt)
  have hw3:w2.heap.size < w3.heap.size:=by have:=hb3.size; simp at this; omega
  have hlt3:w.heap.size < w3.heap.size:=by omega
  have hne3:¬ w.heap.size=w3.heap.size:=by omega
  unfold valOf
  obtain ⟨⟨r0,r1,r2⟩,f0,f1,f2⟩:=HR3.out.facts3
  clear hb3
  have hv9:(vc == 9)=false:=by simpa using hvc
  go_wp2_with fail
  refine bodyPost_ret (results_end Tryz.results172 _ _ w.heap.size _ _ _ (by rfl) ((HR3.out.set3 _ _ _).alloc _)) rfl ⟨ret_end (by rfl),(((HX3.out.setCell (by simp) _).setCell (by simp) _).setCell (by simp) _).alloc (by simp; omega) _⟩
set_option maxHeartbeats 4000000 in
set_option maxRecDepth 100000 in
theorem end_bin_b9t (ts:List Tk) (b o cap k f fb:Nat) (kd vars:Int) (ve:Value) (w:World) (hk:k < ts.length) (hk1:1≤k) (hl:ts.length≤100) (hkd:3≤kd∧kd≤13) (hfb:1≤fb∧fb≤k) (ak an:Int) (bk bn:Int) (HG:Good (.ok ak an)∧Good (.ok bk bn)) (HV:twoV kd ak an bk bn=.bad 9) (hlt:b < w.heap.size) (c0:w.cell? ⟨b,o+k * 3,none⟩=some (.int .i64 kd)) (c1:w.cell? ⟨b,o+k * 3+1,none⟩=some (.int .i64 0)) (c2:w.cell? ⟨b,o+k * 3+2,none⟩=some (.int .i64 0)) (hcc:ts.length≤cap)
    (HIH:∀ w' y,Below w.heap.size w w'→y=((k - 1:Nat):Int)→Calls Tryz.prog 172 #[.slice (some ⟨b,o,none⟩) ts.length cap,.int .i64 y,ve,.int .i64 vars,.bool true] w' (EPost (.ok bk bn) fb w'))
    (HIH2:∀ w' y,Below w.heap.size w w'→y=((fb - 1:Nat):Int)→Calls Tryz.prog 172 #[.slice (some ⟨b,o,none⟩) ts.length cap,.int .i64 y,ve,.int .i64 vars,.bool true] w' (EPost (.ok ak an) f w')) :
    Calls Tryz.prog 172 #[.slice (some ⟨b,o,none⟩) ts.length cap,.int .i64 (k:Int),ve,.int .i64 vars,.bool true] w (EPost (.ok 1 0) f w):=by
  have hk2:(k:Int) < (ts.length:Int):=by omega
  have HB:=Lib.hid (w0_below w kd 0 0)
  have HR:=Lib.hid (w0_res w kd 0 0)
  have HT:=Lib.hid (w0_tok w kd 0 0)
  have HIH':=Lib.hid HIH
  have HIH2':=Lib.hid HIH2
  have HKD:=Lib.hid hkd
  clear HIH HIH2
  have k1:(kd == 1)=false:=by simp; omega
  have k2:(kd == 2)=false:=by simp; omega
  have k15:(kd == 15)=false:=by simp; omega
  have k16:(kd == 16)=false:=by simp; omega
  have k14:(kd == 14)=false:=by simp; omega
  have k19:(kd == 19)=false:=by simp; omega
  clear hkd
  go_enter Tryz.func172,Tryz.ntmps172
  go_wp2_with fail
  refine (HIH'.out _ _ HB.out (by omega)).mono ?_
  rintro e w1 ⟨rfl,hb1⟩
  have HX1:=Lib.hid (HB.out.trans (hb1.mono HB.out.size))
  have HR1:=Lib.hid (HR.out.below hb1 HR.out.lt)
  have HT1:=Lib.hid (HT.out.below hb1 HT.out.lt)
  have hwz:w.heap.size+1 < w1.heap.size:=HT1.out.lt
  unfold valOf
  clear hb1
  go_wp2_with fail
  have HX1b:=Lib.hid (HX1.out.alloc HX1.out.size (.cells #[.int .i64 bk,.int .i64 bn,.int .i64 0] 210))
  have HBB:=Lib.hid (Blk.new w1 210 #[.int .i64 bk,.int .i64 bn,.int .i64 0])
  refine (HIH2'.out _ _ HX1b.out (by omega)).mono ?_
  rintro e w2 ⟨rfl,hb2⟩
  have HX2:=Lib.hid (HX1b.out.trans (hb2.mono HX1b.out.size))
  have HR2:=Lib.hid ((HR1.out.alloc _).below hb2 (HR1.out.alloc _).lt)
  have HT2:=Lib.hid ((HT1.out.alloc _).below hb2 (HT1.out.alloc _).lt)
  have HB2:=Lib.hid (HBB.out.below hb2 HBB.out.lt)
  have hw2:w1.heap.size < w2.heap.size:=HB2.out.lt
  have hlt0:w.heap.size < w2.heap.size:=by omega
  have hne0:¬ w.heap.size=w2.heap.size:=by omega
  have hlt1:w.heap.size+1 < w2.heap.size:=by omega
  unfold valOf
  obtain ⟨⟨t0,t1,t2⟩,_⟩:=HT2.out.facts3
  obtain ⟨⟨r0,r1,r2⟩,f0,f1,f2⟩:=HR2.out.facts3
  obtain ⟨⟨b0,b1,b2⟩,_⟩:=HB2.out.facts3
  clear hb2
  go_wp2_with fail
  have HX2b:=Lib.hid (HX2.out.alloc HX2.out.size (.cells #[.int .i64 ak,.int .i64 an,.int .i64 0] 210))
  refine (two_any kd ak an bk bn _ HKD.out HG.1 HG.2).mono ?_
  rintro e w3 ⟨rfl,hb3⟩
  rw [HV]
  have HX3:=Lib.hid (HX2b.out.trans (hb3.mono HX2b.out.size))
  have HR3:=Lib.hid ((HR2.out.alloc _).below hb3 (HR2.out.alloc _).lt)
  have hw3:w2.heap.size < w3.heap.size:=by have:=hb3.size; simp at this; omega
  have hlt3:w.heap.size < w3.heap.size:=by omega
  have hne3:¬ w.heap.size=w3.heap.size:=by omega
  unfold valOf
  obtain ⟨⟨r0,r1,r2⟩,f0,f1,f2⟩:=HR3.out.facts3
  clear hb3
  go_wp2_with fail
  refine (whole_val _ _).mono ?_
  rintro e w4 ⟨rfl,hb4⟩
  have HX4:=Lib.hid ((HX3.out.alloc HX3.out.size (.cells #[.int .i64 0,.int .i64 0,.int .i64 9] 210)).trans (hb4.mono (by simp; omega)))
  have HR4:=Lib.hid ((HR3.out.alloc _).below hb4 (HR3.out.alloc _).lt)
  obtain ⟨⟨r0,r1,r2⟩,f0,f1,f2⟩:=HR4.out.facts3
  clear hb4
  go_wp2_with fail
  refine bodyPost_ret (results_end Tryz.results172 _ _ w.heap.size _ _ _ (by rfl) (HR4.out.set3 _ _ _)) rfl ⟨ret_end (by rfl),((HX4.out.setCell (by simp) _).setCell (by simp) _).setCell (by simp) _⟩
set_option maxHeartbeats 4000000 in
set_option maxRecDepth 100000 in
theorem end_bin_b9e (ts:List Tk) (b o cap k f fb:Nat) (kd vars:Int) (ve:Value) (w:World) (hk:k < ts.length) (hk1:1≤k) (hl:ts.length≤100) (hkd:3≤kd∧kd≤13) (hfb:1≤fb∧fb≤k) (ak an:Int) (bk bn:Int) (HG:Good (.ok ak an)∧Good (.ok bk bn)) (HV:twoV kd ak an bk bn=.bad 9) (hlt:b < w.heap.size) (c0:w.cell? ⟨b,o+k * 3,none⟩=some (.int .i64 kd)) (c1:w.cell? ⟨b,o+k * 3+1,none⟩=some (.int .i64 0)) (c2:w.cell? ⟨b,o+k * 3+2,none⟩=some (.int .i64 0)) (hcc:ts.length≤cap)
    (HIH:∀ w' y,Below w.heap.size w w'→y=((k - 1:Nat):Int)→Calls Tryz.prog 172 #[.slice (some ⟨b,o,none⟩) ts.length cap,.int .i64 y,ve,.int .i64 vars,.bool false] w' (EPost (.ok bk bn) fb w'))
    (HIH2:∀ w' y,Below w.heap.size w w'→y=((fb - 1:Nat):Int)→Calls Tryz.prog 172 #[.slice (some ⟨b,o,none⟩) ts.length cap,.int .i64 y,ve,.int .i64 vars,.bool false] w' (EPost (.ok ak an) f w')) :
    Calls Tryz.prog 172 #[.slice (some ⟨b,o,none⟩) ts.length cap,.int .i64 (k:Int),ve,.int .i64 vars,.bool false] w (EPost (.bad 9) f w):=by
  have hk2:(k:Int) < (ts.length:Int):=by omega
  have HB:=Lib.hid (w0_below w kd 0 0)
  have HR:=Lib.hid (w0_res w kd 0 0)
  have HT:=Lib.hid (w0_tok w kd 0 0)
  have HIH':=Lib.hid HIH
  have HIH2':=Lib.hid HIH2
  have HKD:=Lib.hid hkd
  clear HIH HIH2
  have k1:(kd == 1)=false:=by simp; omega
  have k2:(kd == 2)=false:=by simp; omega
  have k15:(kd == 15)=false:=by simp; omega
  have k16:(kd == 16)=false:=by simp; omega
  have k14:(kd == 14)=false:=by simp; omega
  have k19:(kd == 19)=false:=by simp; omega
  clear hkd
  go_enter Tryz.func172,Tryz.ntmps172
  go_wp2_with fail
  refine (HIH'.out _ _ HB.out (by omega)).mono ?_
  rintro e w1 ⟨rfl,hb1⟩
  have HX1:=Lib.hid (HB.out.trans (hb1.mono HB.out.size))
  have HR1:=Lib.hid (HR.out.below hb1 HR.out.lt)
  have HT1:=Lib.hid (HT.out.below hb1 HT.out.lt)
  have hwz:w.heap.size+1 < w1.heap.size:=HT1.out.lt
  unfold valOf
  clear hb1
  go_wp2_with fail
  have HX1b:=Lib.hid (HX1.out.alloc HX1.out.size (.cells #[.int .i64 bk,.int .i64 bn,.int .i64 0] 210))
  have HBB:=Lib.hid (Blk.new w1 210 #[.int .i64 bk,.int .i64 bn,.int .i64 0])
  refine (HIH2'.out _ _ HX1b.out (by omega)).mono ?_
  rintro e w2 ⟨rfl,hb2⟩
  have HX2:=Lib.hid (HX1b.out.trans (hb2.mono HX1b.out.size))
  have HR2:=Lib.hid ((HR1.out.alloc _).below hb2 (HR1.out.alloc _).lt)
  have HT2:=Lib.hid ((HT1.out.alloc _).below hb2 (HT1.out.alloc _).lt)
  have HB2:=Lib.hid (HBB.out.below hb2 HBB.out.lt)
  have hw2:w1.heap.size < w2.heap.size:=HB2.out.lt
  have hlt0:w.heap.size < w2.heap.size:=by omega
  have hne0:¬ w.heap.size=w2.heap.size:=by omega
  have hlt1:w.heap.size+1 < w2.heap.size:=by omega
  unfold valOf
  obtain ⟨⟨t0,t1,t2⟩,_⟩:=HT2.out.facts3
  obtain ⟨⟨r0,r1,r2⟩,f0,f1,f2⟩:=HR2.out.facts3
  obtain ⟨⟨b0,b1,b2⟩,_⟩:=HB2.out.facts3
  clear hb2
  go_wp2_with fail
  have HX2b:=Lib.hid (HX2.out.alloc HX2.out.size (.cells #[.int .i64 ak,.int .i64 an,.int .i64 0] 210))
  refine (two_any kd ak an bk bn _ HKD.out HG.1 HG.2).mono ?_
  rintro e w3 ⟨rfl,hb3⟩
  rw [HV]
  have HX3:=Lib.hid (HX2b.out.trans (hb3.mono HX2b.out.size))
  have HR3:=Lib.hid ((HR2.out.alloc _).below hb3 (HR2.out.alloc _).lt)
  have hw3:w2.heap.size < w3.heap.size:=by have:=hb3.size; simp at this; omega
  have hlt3:w.heap.size < w3.heap.size:=by omega
  have hne3:¬ w.heap.size=w3.heap.size:=by omega
  unfold valOf
  obtain ⟨⟨r0,r1,r2⟩,f0,f1,f2⟩:=HR3.out.facts3
  clear hb3
  go_wp2_with fail
  refine bodyPost_ret (results_end Tryz.results172 _ _ w.heap.size _ _ _ (by rfl) ((HR3.out.set3 _ _ _).alloc _)) rfl ⟨ret_end (by rfl),(((HX3.out.setCell (by simp) _).setCell (by simp) _).setCell (by simp) _).alloc (by simp; omega) _⟩
end Go.Proofs.YtfgkcjmeiabdjaaGreatDoor
