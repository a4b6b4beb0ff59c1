/- Plain arithmetic on numbers that go round at 64 bits: sums, products, quotients and rests. -/
import Derived.RowKit
import Derived.IntWalk
import Derived.Test.YtfgkcjmeiabdjaaGreatDoorFZgen
import Derived.Test.YtfgkcjmeiabdjaaGreatDoorFTmay
namespace Go.Proofs.YtfgkcjmeiabdjaaGreatDoor
open Go.RowKit

theorem wrap_turn (x k:Int):wrap64 (x+k * 18446744073709551616)=wrap64 x:=by unfold wrap64; omega

theorem wrap_turns (x:Int):∃ k:Int,wrap64 x=x+k * 18446744073709551616 :=
  ⟨-((x+9223372036854775808) / 18446744073709551616),by unfold wrap64; omega⟩

theorem wrap_same {x y:Int} (k:Int) (h:x=y+k * 18446744073709551616):wrap64 x=wrap64 y:=by
  rw [h,wrap_turn]

theorem wrap_sub_right (x y:Int):wrap64 (x - wrap64 y)=wrap64 (x - y):=by unfold wrap64; omega
theorem wrap_mul_left (x y:Int):wrap64 (wrap64 x * y)=wrap64 (x * y):=by
  obtain ⟨k,hk⟩:=wrap_turns x
  refine wrap_same (k * y) ?_
  rw [hk,Int.add_mul,Int.mul_assoc,Int.mul_assoc,Int.mul_comm 18446744073709551616 y]
theorem wrap_mul_right (x y:Int):wrap64 (x * wrap64 y)=wrap64 (x * y):=by
  rw [Int.mul_comm,wrap_mul_left,Int.mul_comm]

def F64 (a:Int):Prop:=-9223372036854775808≤a∧a≤9223372036854775807
theorem wrap_fits {a:Int} (h:F64 a):wrap64 a=a:=by unfold F64 at h; unfold wrap64; omega
theorem rest_pos (a b:Int) (h:0 < a.tmod b):0 < a:=by
  refine Int.not_le.mp fun hn=>?_
  have h2:0≤(-a).tmod b:=Int.tmod_nonneg b (by omega)
  rw [Int.neg_tmod] at h2
  omega
theorem rest_neg (a b:Int) (h:a.tmod b < 0):a < 0:=by
  refine Int.not_le.mp fun hn=>?_
  have:=Int.tmod_nonneg b hn
  omega
theorem u64_is (x:Int):IntKind.u64.wrap x=x % 18446744073709551616:=by
  simp [IntKind.wrap,IntKind.bits,IntKind.signed]
theorem ref_add (a b:Int):wrap64 (IntKind.u64.wrap (IntKind.u64.wrap a+IntKind.u64.wrap b))=wrap64 (a+b):=by
  simp only [u64_is]; unfold wrap64; omega
theorem ref_sub (a b:Int):wrap64 (IntKind.u64.wrap (IntKind.u64.wrap a - IntKind.u64.wrap b))=wrap64 (a - b):=by
  simp only [u64_is]; unfold wrap64; omega
theorem ref_u (q:Int):wrap64 (IntKind.u64.wrap q)=wrap64 q:=by
  simp only [u64_is]; unfold wrap64; omega
theorem ref_back (t:Int):wrap64 (IntKind.u64.wrap (-IntKind.u64.wrap (-t)))=wrap64 t:=by
  simp only [u64_is]; unfold wrap64; omega
theorem ref_mul (a b:Int):wrap64 (IntKind.u64.wrap (IntKind.u64.wrap a * IntKind.u64.wrap b))=wrap64 (a * b):=by
  simp only [u64_is]
  rw [← Int.mul_emod]; unfold wrap64; omega
theorem size_neg_is (a:Int) (h:a < 0) (h2:-9223372036854775808≤a):IntKind.u64.wrap (-IntKind.u64.wrap a)=-a:=by
  simp only [u64_is]; omega
theorem div_pp (a b:Int) (ha:0≤a):a.tdiv b=a / b:=Int.tdiv_eq_ediv_of_nonneg ha
theorem div_nn (a b:Int) (ha:a < 0):a.tdiv b=-a / -b:=by
  rw [← Int.tdiv_eq_ediv_of_nonneg (by omega:0≤-a),Int.neg_tdiv,Int.tdiv_neg]; omega
theorem ref_mod (a b:Int) (ha:F64 a):wrap64 (a - wrap64 (b * wrap64 (a.tdiv b)))=a.tmod b:=by
  rw [wrap_sub_right,← wrap_sub_right,wrap_mul_right,wrap_sub_right,← Int.tmod_def]
  refine wrap_fits ?_
  have h:=Int.natAbs_tmod a b
  have h2:a.natAbs % b.natAbs≤a.natAbs:=Nat.mod_le _ _
  have p:=rest_pos a b
  have n:=rest_neg a b
  unfold F64 at *
  omega
end Go.Proofs.YtfgkcjmeiabdjaaGreatDoor
/- Contracts of the functions of layer 1 (num) that layer 4 calls, and of the document's own answers for them. -/
namespace Go.Proofs.YtfgkcjmeiabdjaaGreatDoor
open Go.ChangeShapes Go.WideShapes Go.ChangeAt Go.RowKit
set_option linter.unusedVariables false

theorem add_any (a b:Int) (w:World) :
    Calls Tryz.prog 204 #[.int .i64 a,.int .i64 b] w fun e w'=>e=.returned (.int .i64 (wrap64 (a+b)))∧w=w':=by
  go_enter Tryz.func204,Tryz.ntmps204
  go_wp2
  go_ret
  exact ⟨rfl,rfl⟩

theorem sub_any (a b:Int) (w:World) :
    Calls Tryz.prog 205 #[.int .i64 a,.int .i64 b] w fun e w'=>e=.returned (.int .i64 (wrap64 (a - b)))∧w=w':=by
  go_enter Tryz.func205,Tryz.ntmps205
  go_wp2
  go_ret
  exact ⟨rfl,rfl⟩

theorem mul_any (a b:Int) (w:World) :
    Calls Tryz.prog 206 #[.int .i64 a,.int .i64 b] w fun e w'=>e=.returned (.int .i64 (wrap64 (a * b)))∧w=w':=by
  go_enter Tryz.func206,Tryz.ntmps206
  go_wp2
  go_ret
  exact ⟨rfl,rfl⟩

theorem neg_any (a:Int) (w:World) :
    Calls Tryz.prog 193 #[.int .i64 a] w fun e w'=>e=.returned (.int .i64 (wrap64 (-a)))∧w=w':=by
  go_enter Tryz.func193,Tryz.ntmps193
  go_wp2
  go_ret
  exact ⟨rfl,rfl⟩

theorem div_zero (a:Int) (w:World) :
    Calls Tryz.prog 207 #[.int .i64 a,.int .i64 0] w fun e w'=>e=.returned (.tuple #[.int .i64 0,.iface 106 (.int .i64 9)])∧w=w':=by
  go_enter Tryz.func207,Tryz.ntmps207
  go_wp2
  go_ret2
  exact ⟨rfl,rfl⟩

theorem div_any (a b:Int) (w:World) (hb:(b == 0)=false) (hb':¬ b=0) :
    Calls Tryz.prog 207 #[.int .i64 a,.int .i64 b] w fun e w'=>e=.returned (.tuple #[.int .i64 (wrap64 (a.tdiv b)),.nilIface])∧w=w':=by
  go_enter Tryz.func207,Tryz.ntmps207
  go_wp2
  go_ret2
  exact ⟨rfl,rfl⟩

theorem mod_zero (a:Int) (w:World) :
    Calls Tryz.prog 208 #[.int .i64 a,.int .i64 0] w fun e w'=>e=.returned (.tuple #[.int .i64 0,.iface 106 (.int .i64 9)])∧w=w':=by
  go_enter Tryz.func208,Tryz.ntmps208
  go_wp2
  go_ret2
  exact ⟨rfl,rfl⟩

theorem mod_any (a b:Int) (w:World) (hb:(b == 0)=false) (hb':¬ b=0) :
    Calls Tryz.prog 208 #[.int .i64 a,.int .i64 b] w fun e w'=>e=.returned (.tuple #[.int .i64 (a.tmod b),.nilIface])∧w=w':=by
  go_enter Tryz.func208,Tryz.ntmps208
  go_wp2
  go_ret2
  exact ⟨rfl,rfl⟩

theorem radd_any (a b:Int) (w:World) :
    Calls Tryz.prog 200 #[.int .i64 a,.int .i64 b] w fun e w'=>e=.returned (.int .i64 (wrap64 (a+b)))∧w=w':=by
  go_enter Tryz.func200,Tryz.ntmps200
  go_wp2
  go_ret
  exact ⟨ret_int (ref_add a b),rfl⟩

theorem rsub_any (a b:Int) (w:World) :
    Calls Tryz.prog 190 #[.int .i64 a,.int .i64 b] w fun e w'=>e=.returned (.int .i64 (wrap64 (a - b)))∧w=w':=by
  go_enter Tryz.func190,Tryz.ntmps190
  go_wp2
  go_ret
  exact ⟨ret_int (ref_sub a b),rfl⟩

theorem rmul_any (a b:Int) (w:World) :
    Calls Tryz.prog 201 #[.int .i64 a,.int .i64 b] w fun e w'=>e=.returned (.int .i64 (wrap64 (a * b)))∧w=w':=by
  go_enter Tryz.func201,Tryz.ntmps201
  go_wp2
  go_ret
  exact ⟨ret_int (ref_mul a b),rfl⟩

theorem size_neg (a:Int) (w:World) (h:a < 0) (h2:-9223372036854775808≤a) :
    Calls Tryz.prog 213 #[.int .i64 a] w fun e w'=>e=.returned (.int .u64 (-a))∧w=w':=by
  go_enter Tryz.func213,Tryz.ntmps213
  go_wp2
  go_ret
  exact ⟨ret_int (size_neg_is a h h2),rfl⟩

theorem size_pos (a:Int) (w:World) (h:0≤a) (h2:a≤9223372036854775807) :
    Calls Tryz.prog 213 #[.int .i64 a] w fun e w'=>e=.returned (.int .u64 a)∧w=w':=by
  go_enter Tryz.func213,Tryz.ntmps213
  go_wp2
  go_ret
  exact ⟨rfl,rfl⟩

theorem rdiv_pp (a b:Int) (w:World) (n0:¬ b=0) (ha:0≤a) (ha2:a≤9223372036854775807) (hb:0≤b) (hb2:b≤9223372036854775807) :
    Calls Tryz.prog 202 #[.int .i64 a,.int .i64 b] w fun e w'=>e=.returned (.int .i64 (wrap64 (a.tdiv b)))∧w=w':=by
  have d1:decide (a < 0)=false:=by simpa using ha
  have d2:decide (b < 0)=false:=by simpa using hb
  go_enter Tryz.func202,Tryz.ntmps202
  go_wp2_with (first | (go_at_call 213; (with_reducible refine (size_pos a _ ha ha2).mono ?_); rintro e w' ⟨rfl,rfl⟩) | (go_at_call 213; (with_reducible refine (size_pos b _ hb hb2).mono ?_); rintro e w' ⟨rfl,rfl⟩))
  go_ret
  exact ⟨ret_int (by rw [div_pp a b ha]),rfl⟩

theorem rdiv_nn (a b:Int) (w:World) (n0:¬ b=0) (ha:a < 0) (ha2:-9223372036854775808≤a) (hb:b < 0) (hb2:-9223372036854775808≤b) :
    Calls Tryz.prog 202 #[.int .i64 a,.int .i64 b] w fun e w'=>e=.returned (.int .i64 (wrap64 (a.tdiv b)))∧w=w':=by
  go_enter Tryz.func202,Tryz.ntmps202
  go_wp2_with (first | (go_at_call 213; (with_reducible refine (size_neg a _ ha ha2).mono ?_); rintro e w' ⟨rfl,rfl⟩) | (go_at_call 213; (with_reducible refine (size_neg b _ hb hb2).mono ?_); rintro e w' ⟨rfl,rfl⟩))
  go_ret
  exact ⟨ret_int (by rw [div_nn a b ha]; exact ref_u _),rfl⟩

theorem rdiv_np (a b:Int) (w:World) (n0:¬ b=0) (ha:a < 0) (ha2:-9223372036854775808≤a) (hb:0≤b) (hb2:b≤9223372036854775807) :
    Calls Tryz.prog 202 #[.int .i64 a,.int .i64 b] w fun e w'=>e=.returned (.int .i64 (wrap64 (a.tdiv b)))∧w=w':=by
  have d2:decide (b < 0)=false:=by simpa using hb
  go_enter Tryz.func202,Tryz.ntmps202
  go_wp2_with (first | (go_at_call 213; (with_reducible refine (size_neg a _ ha ha2).mono ?_); rintro e w' ⟨rfl,rfl⟩) | (go_at_call 213; (with_reducible refine (size_pos b _ hb hb2).mono ?_); rintro e w' ⟨rfl,rfl⟩))
  go_ret
  exact ⟨ret_int (ref_back _),rfl⟩

theorem rdiv_pn (a b:Int) (w:World) (n0:¬ b=0) (ha:0≤a) (ha2:a≤9223372036854775807) (hb:b < 0) (hb2:-9223372036854775808≤b) :
    Calls Tryz.prog 202 #[.int .i64 a,.int .i64 b] w fun e w'=>e=.returned (.int .i64 (wrap64 (a.tdiv b)))∧w=w':=by
  have d1:decide (a < 0)=false:=by simpa using ha
  go_enter Tryz.func202,Tryz.ntmps202
  go_wp2_with (first | (go_at_call 213; (with_reducible refine (size_pos a _ ha ha2).mono ?_); rintro e w' ⟨rfl,rfl⟩) | (go_at_call 213; (with_reducible refine (size_neg b _ hb hb2).mono ?_); rintro e w' ⟨rfl,rfl⟩))
  go_ret
  exact ⟨ret_int (ref_back _),rfl⟩

theorem rdiv_any (a b:Int) (w:World) (n0:¬ b=0) (ha:F64 a) (hb:F64 b) :
    Calls Tryz.prog 202 #[.int .i64 a,.int .i64 b] w fun e w'=>e=.returned (.int .i64 (wrap64 (a.tdiv b)))∧w=w':=by
  by_cases p:0≤a <;> by_cases q:0≤b
  · exact rdiv_pp a b w n0 p ha.2 q hb.2
  · exact rdiv_pn a b w n0 p ha.2 (by omega) hb.1
  · exact rdiv_np a b w n0 (by omega) ha.1 q hb.2
  · exact rdiv_nn a b w n0 (by omega) ha.1 (by omega) hb.1

theorem rmod_any (a b:Int) (w:World) (n0:¬ b=0) (ha:F64 a) (hb:F64 b) :
    Calls Tryz.prog 203 #[.int .i64 a,.int .i64 b] w fun e w'=>e=.returned (.int .i64 (a.tmod b))∧w=w':=by
  go_enter Tryz.func203,Tryz.ntmps203
  go_wp2_with (first | (go_at_call 202; (with_reducible refine (rdiv_any a b _ n0 ha hb).mono ?_); rintro e w' ⟨rfl,rfl⟩) | (go_at_call 201; refine (rmul_any _ _ _).mono ?_; rintro e w' ⟨rfl,rfl⟩) | (go_at_call 190; refine (rsub_any _ _ _).mono ?_; rintro e w' ⟨rfl,rfl⟩))
  go_ret
  exact ⟨ret_int (ref_mod a b ha),rfl⟩

end Go.Proofs.YtfgkcjmeiabdjaaGreatDoor
/- Plain functions on postfixes: what they give and what they are worth, as a stack of values; which mishap is the first; how types and values go together. No program in this text. -/
namespace Go.Proofs.YtfgkcjmeiabdjaaGreatDoor
open Go.RowKit
set_option linter.unusedVariables false

inductive Vl where
  | ok (k n:Int)
  | bad (c:Int)
def Vl.code:Vl→Int
  | .ok _ _=>0
  | .bad c=>c
def Vl.kind:Vl→Int
  | .ok k _=>k
  | .bad _=>0
def Vl.num:Vl→Int
  | .ok _ n=>n
  | .bad _=>0
structure Md where
  ty:Bool
  env:List Int
  vars:Int
def Md.lim (m:Md):Int:=if m.ty=true then m.vars else (m.env.length:Int)
def truN (b:Bool):Int:=if b=true then 1 else 0
def tru (b:Bool):Vl:=.ok 2 (truN b)
def leafV (m:Md) (t:Tk):Vl :=
  if t.1=1 then .ok 1 t.2.1
  else if t.1=2 then (if t.2.1 < m.lim then .ok 1 (if m.ty=true then 0 else m.env.getD t.2.1.toNat 0) else .bad 4)
  else tru (decide (t.1=15))
def unV (t:Tk):Vl→Vl
  | .bad c=>.bad c
  | .ok k n=>if t.1=14∧k=2 then tru (decide (n=0)) else if t.1=19∧k=1 then .ok 1 (wrap64 (-n)) else .bad 8
def twoV (kd ak an bk bn:Int):Vl :=
  if ak ≠ bk then .bad 8
  else if kd=10 then tru (decide (an=bn))
  else if kd=11 then tru (!decide (an=bn))
  else if ak=2 then
    if kd=12 then tru (decide (an=1) && decide (bn=1))
    else if kd=13 then tru (decide (an=1) || decide (bn=1))
    else .bad 8
  else if kd=3 then .ok 1 (wrap64 (an+bn))
  else if kd=4 then .ok 1 (wrap64 (an - bn))
  else if kd=5 then .ok 1 (wrap64 (an * bn))
  else if kd=6 then (if bn=0 then .bad 9 else .ok 1 (wrap64 (an.tdiv bn)))
  else if kd=7 then (if bn=0 then .bad 9 else .ok 1 (an.tmod bn))
  else if kd=8 then tru (decide (an < bn))
  else if kd=9 then tru (decide (an≤bn))
  else .bad 8
def binV (ty:Bool) (t:Tk):Vl→Vl→Vl
  | .bad c,_=>.bad c
  | .ok _ _,.bad c=>.bad c
  | .ok ak an,.ok bk bn=>if ty=true∧(twoV t.1 ak an bk bn).code=9 then .ok 1 0 else twoV t.1 ak an bk bn
def vstep (m:Md) (t:Tk) (S:List Vl):List Vl :=
  if tak t=0 then leafV m t :: S
  else if tak t=1 then
    match S with
    | x :: S'=>unV t x :: S'
    | []=>[]
  else
    match S with
    | b :: a :: S'=>binV m.ty t a b :: S'
    | _=>[]
def vrun (m:Md):List Tk→List Vl→List Vl
  | [],S=>S
  | t :: r,S=>vrun m r (vstep m t S)
theorem vstep0 {m:Md} {t:Tk} (S:List Vl) (h:tak t=0):vstep m t S=leafV m t :: S:=by unfold vstep; rw [if_pos h]
theorem vstep1 {m:Md} {t:Tk} (x:Vl) (S:List Vl) (h:tak t=1):vstep m t (x :: S)=unV t x :: S:=by unfold vstep; rw [if_neg (by omega),if_pos h]
theorem vstep2 {m:Md} {t:Tk} (b a:Vl) (S:List Vl) (h:tak t=2):vstep m t (b :: a :: S)=binV m.ty t a b :: S:=by unfold vstep; rw [if_neg (by omega),if_neg (by omega)]
theorem vrun_append (m:Md):∀ (a b:List Tk) (S:List Vl),vrun m (a ++ b) S=vrun m b (vrun m a S)
  | [],_,_=>rfl
  | t :: a,b,S=>vrun_append m a b (vstep m t S)
def vs (m:Md) (ts:List Tk) (i:Nat):List Vl:=vrun m (ts.take i) []
theorem vs_succ (m:Md) {ts:List Tk} {i:Nat} (h:i < ts.length):vs m ts (i+1)=vstep m (ts.getD i (0,0,0)) (vs m ts i):=by
  unfold vs
  rw [List.take_add_one,List.getElem?_eq_getElem h,vrun_append]
  simp [List.getD,List.getElem?_eq_getElem h,vrun]
theorem vstep_len {m:Md} {t:Tk} {S:List Vl} (h0:0≤tak t) (h:tak t≤S.length):((vstep m t S).length:Int)=S.length - tak t+1:=by
  rcases tak_cases t with c | c | c | c
  · omega
  · rw [vstep0 _ c,c]; simp
  · rcases S with _ | ⟨x,S'⟩
    · rw [c] at h; simp at h
    · rw [vstep1 _ _ c,c]; simp
  · rcases S with _ | ⟨x,_ | ⟨y,S'⟩⟩
    · rw [c] at h; simp at h
    · rw [c] at h; simp at h
    · rw [vstep2 _ _ _ c,c]; simp; omega
theorem vs_len (m:Md) (ts:List Tk):∀ i,i≤ts.length→Valid ts i→(vs m ts i).length=(stk ts i).length
  | 0,_,_=>rfl
  | i+1,hi,hv=>by
    have ih:=vs_len m ts i (by omega) (hv.mono (by omega))
    have h1:=valid_len hv
    have h2:=vstep_len (m:=m) (S:=vs m ts i) (hv i (by omega)).1 (by rw [ih]; exact (hv i (by omega)).2)
    rw [← vs_succ m (by omega),ih] at h2
    omega

def fb:List Vl→Option Int
  | []=>none
  | x :: S=>match fb S with
    | some c=>some c
    | none=>match x with
      | .bad c=>some c
      | .ok _ _=>none
theorem fb_cons (x:Vl) (S:List Vl):fb (x :: S)=(fb S).orElse fun _=>match x with | .bad c=>some c | .ok _ _=>none:=by
  show (match fb S with | some c=>some c | none=>match x with | .bad c=>some c | .ok _ _=>none)=_
  cases fb S <;> rfl
theorem fb_step {m:Md} {t:Tk} {S:List Vl} {c:Int} (h0:0≤tak t) (h:tak t≤S.length) (hb:fb S=some c):fb (vstep m t S)=some c:=by
  rcases tak_cases t with e | e | e | e
  · omega
  · rw [vstep0 _ e,fb_cons,hb]; rfl
  · rcases S with _ | ⟨x,S'⟩
    · cases hb
    · rw [vstep1 _ _ e]
      rw [fb_cons] at hb ⊢
      cases hS:fb S' with
      | some d=>rw [hS] at hb; exact hb
      | none =>
        rw [hS] at hb
        cases x with
        | bad d=>exact hb
        | ok k n=>cases hb
  · rcases S with _ | ⟨b,_ | ⟨a,S'⟩⟩
    · cases hb
    · rw [e] at h; simp at h
    · rw [vstep2 _ _ _ e]
      rw [fb_cons,fb_cons] at hb
      rw [fb_cons]
      cases hS:fb S' with
      | some d=>rw [hS] at hb; exact hb
      | none =>
        rw [hS] at hb
        cases a with
        | bad d=>exact hb
        | ok k n =>
          cases b with
          | bad d=>exact hb
          | ok k' n'=>cases hb
theorem fb_run (m:Md) {ts:List Tk} {i:Nat} {c:Int} (hb:fb (vs m ts i)=some c):∀ n,i+n≤ts.length→Valid ts (i+n)→fb (vs m ts (i+n))=some c
  | 0,_,_=>hb
  | n+1,hl,hv=>by
    have ih:=fb_run m hb n (by omega) (hv.mono (by omega))
    rw [show i+(n+1)=i+n+1 from rfl,vs_succ m (by omega)]
    exact fb_step (hv (i+n) (by omega)).1 (by rw [vs_len m ts _ (by omega) (hv.mono (by omega))]; exact (hv (i+n) (by omega)).2) ih
theorem vs_top (m:Md) {ts:List Tk} (hv:Valid ts ts.length) (h1:(stk ts ts.length).length=1):∃ v,vs m ts ts.length=[v]:=by
  have hl:=vs_len m ts ts.length (Nat.le_refl _) hv
  rw [h1] at hl
  exact List.length_eq_one_iff.1 hl
theorem bad_end (m:Md) {ts:List Tk} {i:Nat} {c:Int} {v:Vl} {S:List Vl} (hv:Valid ts ts.length) (hi:i≤ts.length) (htop:vs m ts ts.length=[v]) (hS:vs m ts i=.bad c :: S) (hok:fb S=none):v=.bad c:=by
  have h:=fb_run m (c:=c) (ts:=ts) (i:=i) (by rw [hS,fb_cons,hok]; rfl) (ts.length - i) (by omega) (by rw [show i+(ts.length - i)=ts.length by omega]; exact hv)
  rw [show i+(ts.length - i)=ts.length by omega,htop,fb_cons] at h
  cases v with
  | ok k n=>cases h
  | bad d=>injection h with h; rw [h]

theorem tkk_zero {t:Tk} (h:tak t=0):t.2.2=0∧0≤t.2.1∧(t.1=1 ∨ (t.1=2∧t.2.1 < 26) ∨ (t.1=15∧t.2.1=0) ∨ (t.1=16∧t.2.1=0)):=by
  obtain ⟨k,n,a⟩:=t
  unfold tak at h
  simp only at h ⊢
  split at h; · omega
  split at h; · omega
  split at h; · omega
  split at h; · omega
  split at h; · omega
  split at h <;> omega
theorem tkk_one {t:Tk} (h:tak t=1):t=(14,0,0) ∨ t=(19,0,0):=by
  obtain ⟨k,n,a⟩:=t
  unfold tak at h
  simp only at h
  split at h; · omega
  split at h; · omega
  split at h; · omega
  split at h; · omega
  split at h
  · rename_i h1 h2 h3 h4 h5
    obtain rfl:a=0:=by omega
    obtain rfl:n=0:=by omega
    rcases h5 with rfl | rfl
    · exact .inl rfl
    · exact .inr rfl
  · split at h <;> omega
theorem lvl_pos {k:Int} (h:lvl k ≠ 0):3≤k∧k≤13:=by
  unfold lvl at h
  split at h; · omega
  split at h; · omega
  split at h; · omega
  split at h; · omega
  split at h
  · omega
  · exact absurd rfl h
theorem tkk_two {t:Tk} (h:tak t=2):∃ k,t=(k,0,0)∧3≤k∧k≤13:=by
  obtain ⟨k,n,a⟩:=t
  unfold tak at h
  simp only at h
  split at h; · omega
  split at h; · omega
  split at h; · omega
  split at h; · omega
  split at h; · omega
  split at h
  · rename_i h1 h2 h3 h4 h5 h6
    obtain rfl:a=0:=by omega
    obtain rfl:n=0:=by omega
    exact ⟨k,rfl,lvl_pos h6⟩
  · omega

def Good:Vl→Prop
  | .bad c=>c=4 ∨ c=8 ∨ c=9
  | .ok k n=>(k=1∧F64 n) ∨ (k=2∧(n=0 ∨ n=1))
theorem truN_01 (b:Bool):truN b=0 ∨ truN b=1:=by cases b <;> simp [truN]
theorem tru_good (b:Bool):Good (tru b):=.inr ⟨rfl,truN_01 b⟩
theorem wrap_f64 (x:Int):F64 (wrap64 x):=by unfold F64 wrap64; omega
theorem tmod_f64 {a:Int} (b:Int) (ha:F64 a):F64 (a.tmod b):=by
  have h:=Int.natAbs_tmod a b
  have h2:a.natAbs % b.natAbs≤a.natAbs:=Nat.mod_le _ _
  have p:=rest_pos a b
  have n:=rest_neg a b
  unfold F64 at *
  omega
theorem leaf_good (m:Md) {t:Tk} (h:tak t=0) (hn:t.2.1≤9223372036854775807) (he:∀ x ∈ m.env,F64 x):Good (leafV m t):=by
  obtain ⟨_,h0,hk⟩:=tkk_zero h
  unfold leafV
  by_cases c1:t.1=1
  · rw [if_pos c1]; exact .inl ⟨rfl,by unfold F64; omega⟩
  · rw [if_neg c1]
    by_cases c2:t.1=2
    · rw [if_pos c2]
      by_cases c3:t.2.1 < m.lim
      · rw [if_pos c3]
        refine .inl ⟨rfl,?_⟩
        by_cases c4:m.ty=true
        · rw [if_pos c4]; unfold F64; omega
        · rw [if_neg c4]
          unfold Md.lim at c3
          rw [if_neg c4] at c3
          have hl:t.2.1.toNat < m.env.length:=by omega
          rw [List.getD,List.getElem?_eq_getElem hl]
          exact he _ (List.getElem_mem hl)
      · rw [if_neg c3]; exact .inl rfl
    · rw [if_neg c2]; exact tru_good _
theorem unV_ok (t:Tk) (k n:Int):unV t (.ok k n)=if t.1=14∧k=2 then tru (decide (n=0)) else if t.1=19∧k=1 then .ok 1 (wrap64 (-n)) else .bad 8:=rfl
theorem binV_ok (ty:Bool) (t:Tk) (ak an bk bn:Int):binV ty t (.ok ak an) (.ok bk bn)=if ty=true∧(twoV t.1 ak an bk bn).code=9 then .ok 1 0 else twoV t.1 ak an bk bn:=rfl
theorem un_good {t:Tk} {x:Vl} (hx:Good x):Good (unV t x):=by
  cases x with
  | bad c=>exact hx
  | ok k n =>
    rw [unV_ok]
    split
    · exact tru_good _
    · split
      · exact .inl ⟨rfl,wrap_f64 _⟩
      · exact .inr (.inl rfl)
theorem two_good {kd ak an bk bn:Int} (ha:Good (.ok ak an)) (hb:Good (.ok bk bn)):Good (twoV kd ak an bk bn):=by
  unfold twoV
  split; · exact .inr (.inl rfl)
  split; · exact tru_good _
  split; · exact tru_good _
  split
  · split; · exact tru_good _
    split; · exact tru_good _
    exact .inr (.inl rfl)
  · rename_i h1 _ _ h2
    have fa:F64 an:=by
      rcases ha with ⟨_,h⟩ | ⟨h,_⟩
      · exact h
      · exact absurd h h2
    split; · exact .inl ⟨rfl,wrap_f64 _⟩
    split; · exact .inl ⟨rfl,wrap_f64 _⟩
    split; · exact .inl ⟨rfl,wrap_f64 _⟩
    split
    · split
      · exact .inr (.inr rfl)
      · exact .inl ⟨rfl,wrap_f64 _⟩
    split
    · split
      · exact .inr (.inr rfl)
      · exact .inl ⟨rfl,tmod_f64 _ fa⟩
    split; · exact tru_good _
    split; · exact tru_good _
    exact .inr (.inl rfl)
theorem bin_good {ty:Bool} {t:Tk} {a b:Vl} (ha:Good a) (hb:Good b):Good (binV ty t a b):=by
  cases a with
  | bad c=>exact ha
  | ok ak an =>
    cases b with
    | bad c=>exact hb
    | ok bk bn =>
      rw [binV_ok]
      split
      · exact .inl ⟨rfl,by unfold F64; omega⟩
      · exact two_good ha hb
def AllGood (S:List Vl):Prop:=∀ x ∈ S,Good x
theorem step_good (m:Md) {t:Tk} {S:List Vl} (h0:0≤tak t) (h:tak t≤S.length) (hn:t.2.1≤9223372036854775807) (he:∀ x ∈ m.env,F64 x) (hS:AllGood S):AllGood (vstep m t S):=by
  rcases tak_cases t with c | c | c | c
  · omega
  · rw [vstep0 _ c]
    intro x hx
    rcases List.mem_cons.1 hx with rfl | hx
    · exact leaf_good m c hn he
    · exact hS x hx
  · rcases S with _ | ⟨x,S'⟩
    · rw [c] at h; simp at h
    · rw [vstep1 _ _ c]
      intro y hy
      rcases List.mem_cons.1 hy with rfl | hy
      · exact un_good (hS x (by simp))
      · exact hS y (by simp [hy])
  · rcases S with _ | ⟨x,_ | ⟨y,S'⟩⟩
    · rw [c] at h; simp at h
    · rw [c] at h; simp at h
    · rw [vstep2 _ _ _ c]
      intro z hz
      rcases List.mem_cons.1 hz with rfl | hz
      · exact bin_good (hS y (by simp)) (hS x (by simp))
      · exact hS z (by simp [hz])
theorem vs_good (m:Md) {ts:List Tk} (hn:∀ t ∈ ts,t.2.1≤9223372036854775807) (he:∀ x ∈ m.env,F64 x):∀ i,i≤ts.length→Valid ts i→AllGood (vs m ts i)
  | 0,_,_=>fun x hx=>by cases hx
  | i+1,hi,hv=>by
    have ih:=vs_good m hn he i (by omega) (hv.mono (by omega))
    rw [vs_succ m (by omega)]
    refine step_good m (hv i (by omega)).1 (by rw [vs_len m ts _ (by omega) (hv.mono (by omega))]; exact (hv i (by omega)).2) ?_ he ih
    rw [List.getD,List.getElem?_eq_getElem (show i < ts.length by omega)]
    exact hn _ (List.getElem_mem _)

def rul (k:Int):Int × Int × Int :=
  if k=15 ∨ k=16 then (0,0,2)
  else if 3≤k∧k≤7 then (2,1,1)
  else if k=19 then (1,1,1)
  else if k=8 ∨ k=9 then (2,1,2)
  else if k=10 ∨ k=11 then (2,0,2)
  else if k=12 ∨ k=13 then (2,2,2)
  else if k=14 then (1,2,2)
  else (0,0,1)
def tks:Int→List Int→Bool
  | _,[]=>true
  | kk,k :: r=>if kk=0 then tks k r else if k=kk then tks kk r else false
theorem rul_leaf {t:Tk} (h:tak t=0):(rul t.1).1=0∧(rul t.1).2.1=0:=by
  obtain ⟨_,_,h | ⟨h,_⟩ | ⟨h,_⟩ | ⟨h,_⟩⟩:=tkk_zero h <;> rw [h] <;> decide
theorem leaf_none {m:Md} {t:Tk} (h1:t.1=2) (h2:m.lim≤t.2.1):leafV m t=.bad 4:=by
  unfold leafV
  rw [if_neg (by omega),if_pos h1,if_neg (by omega)]
theorem leaf_some {m:Md} {t:Tk} (h:tak t=0) (h1:¬ (t.1=2∧m.lim≤t.2.1)):∃ n,leafV m t=.ok (rul t.1).2.2 n:=by
  obtain ⟨_,_,c | ⟨c,_⟩ | ⟨c,_⟩ | ⟨c,_⟩⟩:=tkk_zero h
  · exact ⟨t.2.1,by unfold leafV; rw [if_pos c,c]; rfl⟩
  · refine ⟨if m.ty=true then 0 else m.env.getD t.2.1.toNat 0,?_⟩
    unfold leafV
    rw [if_neg (by omega),if_pos c,if_pos (by omega),c]
    rfl
  · refine ⟨truN (decide (t.1=15)),?_⟩
    unfold leafV tru
    rw [if_neg (by omega),if_neg (by omega),c]
    rfl
  · refine ⟨truN (decide (t.1=15)),?_⟩
    unfold leafV tru
    rw [if_neg (by omega),if_neg (by omega),c]
    rfl
theorem un_rul {t:Tk} (h:tak t=1):(rul t.1).1=1:=by rcases tkk_one h with rfl | rfl <;> decide
theorem un_step {t:Tk} {k n:Int} (h:tak t=1) (hk:k=1 ∨ k=2) :
    (tks (rul t.1).2.1 [k]=true→∃ n',unV t (.ok k n)=.ok (rul t.1).2.2 n')∧(tks (rul t.1).2.1 [k]=false→unV t (.ok k n)=.bad 8):=by
  rcases tkk_one h with rfl | rfl <;> rcases hk with rfl | rfl
  · exact ⟨fun h=>absurd h (by decide),fun _=>by simp [unV]⟩
  · exact ⟨fun _=>⟨truN (decide (n=0)),by simp [unV,tru]; decide⟩,fun h=>absurd h (by decide)⟩
  · exact ⟨fun _=>⟨wrap64 (-n),by simp [unV]; decide⟩,fun h=>absurd h (by decide)⟩
  · exact ⟨fun h=>absurd h (by decide),fun _=>by simp [unV]⟩
theorem bin_rul {t:Tk} (h:tak t=2):(rul t.1).1=2:=by
  obtain ⟨k,rfl,h3,h13⟩:=tkk_two h
  obtain rfl | rfl | rfl | rfl | rfl | rfl | rfl | rfl | rfl | rfl | rfl:k=3 ∨ k=4 ∨ k=5 ∨ k=6 ∨ k=7 ∨ k=8 ∨ k=9 ∨ k=10 ∨ k=11 ∨ k=12 ∨ k=13:=by omega
  all_goals decide
theorem bin_step {ty:Bool} {t:Tk} {ak an bk bn:Int} (h:tak t=2) (ha:ak=1 ∨ ak=2) (hb:bk=1 ∨ bk=2) :
    (tks (rul t.1).2.1 [ak,bk]=true→(∃ n,binV ty t (.ok ak an) (.ok bk bn)=.ok (rul t.1).2.2 n) ∨ (ty=false∧binV ty t (.ok ak an) (.ok bk bn)=.bad 9))
      ∧ (tks (rul t.1).2.1 [ak,bk]=false→binV ty t (.ok ak an) (.ok bk bn)=.bad 8):=by
  obtain ⟨k,rfl,h3,h13⟩:=tkk_two h
  obtain rfl | rfl | rfl | rfl | rfl | rfl | rfl | rfl | rfl | rfl | rfl:k=3 ∨ k=4 ∨ k=5 ∨ k=6 ∨ k=7 ∨ k=8 ∨ k=9 ∨ k=10 ∨ k=11 ∨ k=12 ∨ k=13:=by omega
  all_goals
    rcases ha with rfl | rfl <;> rcases hb with rfl | rfl
    all_goals
      by_cases hz:bn=0 <;> cases ty <;> simp [tks,rul,binV,twoV,Vl.code,tru,hz]
end Go.Proofs.YtfgkcjmeiabdjaaGreatDoor
/- The contracts of expr's small functions: truth, holds, worthOfTwo, ruleOf, takes. -/
namespace Go.Proofs.YtfgkcjmeiabdjaaGreatDoor
open Go.ChangeShapes Go.WideShapes Go.ChangeAt Go.RowKit
set_option linter.unusedVariables false

theorem etruth_any (b:Bool) (w:World):Calls Tryz.prog 192 #[.bool b] w fun e w'=>e=.returned (.int .i64 (truN b))∧w=w':=by
  cases b
  all_goals
    go_enter Tryz.func192,Tryz.ntmps192
    go_wp2
    go_ret
    exact ⟨rfl,rfl⟩
def holdsB (k x y:Int):Bool :=
  if k=8 then decide (x < y) else if k=9 then decide (x≤y) else if k=10 then decide (x=y) else if k=11 then !decide (x=y)
  else if k=12 then !decide (x=0) && !decide (y=0) else !decide (x=0) || !decide (y=0)
set_option maxHeartbeats 1000000 in
theorem holds_any (k x y:Int) (w:World) (hk:8≤k∧k≤13):Calls Tryz.prog 209 #[.int .i64 k,.int .i64 x,.int .i64 y] w fun e w'=>e=.returned (.bool (holdsB k x y))∧w=w':=by
  obtain rfl | rfl | rfl | rfl | rfl | rfl:k=8 ∨ k=9 ∨ k=10 ∨ k=11 ∨ k=12 ∨ k=13:=by omega
  · go_enter Tryz.func209,Tryz.ntmps209
    go_wp2
    go_ret
    exact ⟨ret_bool (by simp [holdsB]),rfl⟩
  · go_enter Tryz.func209,Tryz.ntmps209
    go_wp2
    go_ret
    exact ⟨ret_bool (by simp [holdsB]),rfl⟩
  · go_enter Tryz.func209,Tryz.ntmps209
    go_wp2
    go_ret
    exact ⟨ret_bool (by simp [holdsB]; rfl),rfl⟩
  · go_enter Tryz.func209,Tryz.ntmps209
    go_wp2
    go_ret
    exact ⟨ret_bool (by simp [holdsB]; rfl),rfl⟩
  · by_cases h:x=0
    · have h2:(x != 0)=false:=by simp [h]
      have h3:(x == 0)=true:=by simp [h]
      go_enter Tryz.func209,Tryz.ntmps209
      go_wp2
      go_ret
      exact ⟨ret_bool (by simp [holdsB,h]),rfl⟩
    · have h2:(x != 0)=true:=by simp [h]
      have h3:(x == 0)=false:=by simp [h]
      go_enter Tryz.func209,Tryz.ntmps209
      go_wp2
      go_ret
      exact ⟨ret_bool (by simp [holdsB,h]; rfl),rfl⟩
  · by_cases h:x=0
    · have h2:(x != 0)=false:=by simp [h]
      have h3:(x == 0)=true:=by simp [h]
      go_enter Tryz.func209,Tryz.ntmps209
      go_wp2
      go_ret
      exact ⟨ret_bool (by simp [holdsB,h]; rfl),rfl⟩
    · have h2:(x != 0)=true:=by simp [h]
      have h3:(x == 0)=false:=by simp [h]
      go_enter Tryz.func209,Tryz.ntmps209
      go_wp2
      go_ret
      exact ⟨ret_bool (by simp [holdsB,h]),rfl⟩
theorem results_one3 {fn:Func} {r:Tmp} (hr:fn.results=#[.cell r 201]) (tmps:Array Value) (w:World) (g:Nat) (a b c:Value)
    (hp:tmps.getD r undef=.pointer (some ⟨g,0,none⟩)) (hB:Blk w g 201 #[a,b,c]) :
    (results fn tmps).run Tryz.prog w=.ok (.agg #[a,b,c]) w:=by
  have c0:=hB.cell 0
  have c1:=hB.cell 1
  have c2:=hB.cell 2
  simp at c0 c1 c2 hp
  simp [results,hr,hp,go_sem,c0,c1,c2]
theorem ret_rul {k a b c:Int} (h:rul k=(a,b,c)):Ending.returned (.agg #[.int .i64 a,.int .i64 b,.int .i64 c])=.returned (.agg #[.int .i64 (rul k).1,.int .i64 (rul k).2.1,.int .i64 (rul k).2.2]):=by rw [h]
set_option maxHeartbeats 2000000 in
theorem ruleOf_any (k:Int) (w:World):Calls Tryz.prog 166 #[.int .i64 k] w fun e w'=>e=.returned (.agg #[.int .i64 (rul k).1,.int .i64 (rul k).2.1,.int .i64 (rul k).2.2])∧Below w.heap.size w w':=by
  go_enter Tryz.func166,Tryz.ntmps166
  go_wp2
  all_goals
    refine bodyPost_ret (results_one3 Tryz.results166 _ _ w.heap.size _ _ _ (by rfl) (Blk.new w 201 _)) rfl ⟨ret_rul ?_,(Below.refl _ _).alloc (Nat.le_refl _) _⟩
    unfold rul
    (repeat' split) <;> first | rfl | (exfalso; omega) | (exfalso; simp_all; omega) | (exfalso; simp_all)
def NumsAt (w:World) (v:Value) (xs:List Int):Prop :=
  ∃ (A:Option Addr) (cap:Nat),v=.slice A xs.length cap∧xs.length≤cap∧∀ (i:Nat) (x:Int),xs[i]?=some x→∃ b o:Nat,A=some ⟨b,o,none⟩∧b < w.heap.size∧w.cell? ⟨b,o+i,none⟩=some (.int .i64 x)
theorem NumsAt.below {w w':World} {v:Value} {xs:List Int} (h:NumsAt w v xs) (hb:Below w.heap.size w w'):NumsAt w' v xs:=by
  obtain ⟨A,cap,hv,hc,hi⟩:=h
  refine ⟨A,cap,hv,hc,fun i t ht=>?_⟩
  obtain ⟨b,o,hA,hlt,h0⟩:=hi i t ht
  exact ⟨b,o,hA,Nat.lt_of_lt_of_le hlt hb.size,(hb.cell (p:=⟨b,_,none⟩) hlt).trans h0⟩
theorem tks_zero (k:Int) (r:List Int):tks 0 (k :: r)=tks k r:=by rw [tks,if_pos rfl]
theorem tks_same {k:Int} (r:List Int) (h:k ≠ 0):tks k (k :: r)=tks k r:=by rw [tks,if_neg h,if_pos rfl]
theorem tks_other {k j:Int} (r:List Int) (h:k ≠ 0) (hj:j ≠ k):tks k (j :: r)=false:=by rw [tks,if_neg h,if_neg hj]
set_option maxHeartbeats 2000000 in
set_option maxRecDepth 100000 in
theorem rtks_any (c kk gv:Int) (v:Value) (xs:List Int) (w:World) (hv:NumsAt w v xs) (hx:∀ x ∈ xs,x ≠ 0) (hl:xs.length≤1000) :
    Calls Tryz.prog 167 #[.agg #[.int .i64 c,.int .i64 kk,.int .i64 gv],v] w fun e w'=>e=.returned (.bool (tks kk xs))∧Below w.heap.size w w':=by
  obtain ⟨A,cap,rfl,hc,hel⟩:=hv
  have HE:=Lib.hid hel
  have HX:=Lib.hid hx
  clear hel hx
  go_enter Tryz.func167,Tryz.ntmps167
  go_wp2_with fail
  go_loopw [9] (fun i wr=>∃ (k:Nat) (j:Int),k≤xs.length∧i=.int .i64 (k:Int)∧Hid (tks j (xs.drop k)=tks kk xs)∧Blk wr w.heap.size 201 #[.int .i64 c,.int .i64 j,.int .i64 gv]∧Below w.heap.size w wr) (fun i _=>xs.length - (intOf i).toNat)
  case atStart=>exact ⟨0,kk,Nat.zero_le _,rfl,Lib.hid rfl,Blk.new _ _ _,(Below.refl _ _).alloc (Nat.le_refl _) _⟩
  case round =>
    obtain ⟨k,j,hk,rfl,hC,hB,hb⟩:=hrel
    obtain ⟨wo,rfl⟩:∃ wo:World,wo=wr:=⟨_,rfl⟩
    obtain ⟨⟨d0,d1,d2⟩,e0,e1,e2⟩:=hB.facts3
    by_cases hlt:k < xs.length
    · obtain ⟨b,o,rfl,hbw,c0⟩:=HE.out k xs[k] (List.getElem?_eq_getElem hlt)
      have c0:wo.cell? ⟨b,o+k,none⟩=_:=(hb.cell (p:=⟨b,_,none⟩) hbw).trans c0
      have HD:=Lib.hid (List.drop_eq_getElem_cons hlt)
      have hx0:=HX.out xs[k] (List.getElem_mem hlt)
      generalize xs[k]=x at *
      have HB:=Lib.hid hB
      clear hB
      by_cases hj:j=0
      · subst hj
        have HC:=Lib.hid (show tks x (xs.drop (k+1))=tks kk xs by rw [← hC.out,HD.out,tks_zero])
        clear hC
        go_wp2
        go_roundw
        case rel=>exact ⟨k+1,x,by omega,by go_num,HC,HB.out.set_ 1 _,hb.setCell (by simp) _⟩
        case measure=>simp [intOf]; omega
      · have hj2:(j == 0)=false:=by simpa using hj
        by_cases hxj:x=j
        · subst hxj
          have HC:=Lib.hid (show tks x (xs.drop (k+1))=tks kk xs by rw [← hC.out,HD.out,tks_same _ hj])
          have hxx:(x != x)=false:=by simp
          clear hC
          go_wp2
          go_roundw
          case rel=>exact ⟨k+1,x,by omega,by go_num,HC,HB.out,hb⟩
          case measure=>simp [intOf]; omega
        · have HC:=Lib.hid (show tks kk xs=false by rw [← hC.out,HD.out,tks_other _ hj hxj])
          have hxx:(x != j)=true:=by simpa using hxj
          clear hC
          go_wp2
          go_ret
          exact ⟨by rw [HC.out]; rfl,hb⟩
    · obtain rfl:k=xs.length:=by omega
      have HC:=Lib.hid (show tks kk xs=true by rw [← hC.out,List.drop_length,tks])
      clear hC hB
      go_wp2
      go_ret
      exact ⟨by rw [HC.out]; rfl,hb⟩
end Go.Proofs.YtfgkcjmeiabdjaaGreatDoor
