/- Texts of the proof, put together. -/
import Derived.RowKit
import Derived.IntWalk
import Derived.Test.YtpekhdfmmkmjaaaGreatDoorG3
namespace Go.Proofs.YtpekhdfmmkmjaaaGreatDoor
set_option maxHeartbeats 4000000
set_option maxRecDepth 100000
set_option linter.unusedVariables false
open Go.Proofs.Tryz
open Go.RowKit
theorem ayk(x k:Int):wrap64 (x+k*18446744073709551616)=wrap64 x:=by unfold wrap64;omega
theorem at3(x:Int):∃k:Int,wrap64 x=x+k*18446744073709551616 :=
 ⟨-((x+9223372036854775808) / 18446744073709551616),by unfold wrap64;omega⟩
theorem ayl{x y:Int}(k:Int)(h:x=y+k*18446744073709551616):wrap64 x=wrap64 y:=by rw[h,ayk]
theorem yd(x y:Int):wrap64 (x-wrap64 y)=wrap64 (x-y):=by unfold wrap64;omega
theorem ami(x y:Int):wrap64 (wrap64 x*y)=wrap64 (x*y):=by obtain ⟨k,d⟩:=at3 x;refine ayl (k*y) ?_;rw[d,Int.add_mul,Int.mul_assoc,Int.mul_assoc,Int.mul_comm 18446744073709551616 y]
theorem aj1(x y:Int):wrap64 (x*wrap64 y)=wrap64 (x*y):=by rw[Int.mul_comm,ami,Int.mul_comm]
def uj(a:Int):Prop:=-9223372036854775808<=a/\a<=9223372036854775807
theorem aym{a:Int}(h:uj a):wrap64 a=a:=by unfold uj at h;unfold wrap64;omega
theorem ard(a b:Int)(h:0<a.tmod b):0<a:=by refine Int.not_le.mp λy=>?_;have d:0<=(-a).tmod b:=Int.tmod_nonneg b (by omega);rw[Int.neg_tmod]at d;omega
theorem arf(a b:Int)(h:a.tmod b<0):a<0:=by refine Int.not_le.mp λd=>?_;have:=Int.tmod_nonneg b d;omega
theorem ahg(x:Int):IntKind.u64.wrap x=x%18446744073709551616:=by simp[IntKind.wrap,IntKind.bits,IntKind.signed]
theorem a70(a b:Int):wrap64 (IntKind.u64.wrap (IntKind.u64.wrap a+IntKind.u64.wrap b))=wrap64 (a+b):=by simp only[ahg];unfold wrap64;omega
theorem a7x(a b:Int):wrap64 (IntKind.u64.wrap (IntKind.u64.wrap a-IntKind.u64.wrap b))=wrap64 (a-b):=by simp only[ahg];unfold wrap64;omega
theorem bcm(q:Int):wrap64 (IntKind.u64.wrap q)=wrap64 q:=by simp only[ahg];unfold wrap64;omega
theorem arg(t:Int):wrap64 (IntKind.u64.wrap (-IntKind.u64.wrap (-t)))=wrap64 t:=by simp only[ahg];unfold wrap64;omega
theorem a7y(a b:Int):wrap64 (IntKind.u64.wrap (IntKind.u64.wrap a*IntKind.u64.wrap b))=wrap64 (a*b):=by simp only[ahg];rw[<-Int.mul_emod];unfold wrap64;omega
theorem aqw(a:Int)(h:a<0)(d:-9223372036854775808<=a):IntKind.u64.wrap (-IntKind.u64.wrap a)=-a:=by simp only[ahg];omega
theorem bbq(a b:Int)(d:0<=a):a.tdiv b=a / b:=Int.tdiv_eq_ediv_of_nonneg d
theorem bbr(a b:Int)(d:a<0):a.tdiv b=-a / -b:=by rw[<-Int.tdiv_eq_ediv_of_nonneg (by omega:0<=-a),Int.neg_tdiv,Int.tdiv_neg];omega
theorem a7z(a b:Int)(y:uj a):wrap64 (a-wrap64 (b*wrap64 (a.tdiv b)))=a.tmod b:=by rw[yd,<-yd,aj1,yd,<-Int.tmod_def];refine aym ?_;have h:=Int.natAbs_tmod a b;have d:a.natAbs%b.natAbs<=a.natAbs:=Nat.mod_le _ _;have p:=ard a b;have n:=arf a b;unfold uj at *;omega
open Go.ChangeShapes Go.WideShapes Go.ChangeAt
theorem a9t(a b:Int)(w:ω) :
 Calls prog 308 #[ι a,ι b] w λe d=>e=.returned (ι (wrap64 (a+b)))/\w=d:=by
 go_enter func308,ntmps308;go_wp2;go_ret;exact⟨rfl,rfl⟩
theorem a7j(a b:Int)(w:ω) :
 Calls prog 309 #[ι a,ι b] w λe d=>e=.returned (ι (wrap64 (a-b)))/\w=d:=by
 go_enter func309,ntmps309;go_wp2;go_ret;exact⟨rfl,rfl⟩
theorem a8r(a b:Int)(w:ω) :
 Calls prog 310 #[ι a,ι b] w λe d=>e=.returned (ι (wrap64 (a*b)))/\w=d:=by
 go_enter func310,ntmps310;go_wp2;go_ret;exact⟨rfl,rfl⟩
theorem a8q(a:Int)(w:ω) :
 Calls prog 287 #[ι a] w λe d=>e=.returned (ι (wrap64 (-a)))/\w=d:=by
 go_enter func287,ntmps287;go_wp2;go_ret;exact⟨rfl,rfl⟩
theorem a5m(a:Int)(w:ω) :
 Calls prog 311 #[ι a,ι 0] w λe d=>e=.returned (.tuple #[ι 0,.iface 93 (ι 9)])/\w=d:=by
 go_enter func311,ntmps311;go_wp2;go_ret2;exact⟨rfl,rfl⟩
theorem a9h(a b:Int)(w:ω)(y:(b==0)=false)(z:¬b=0) :
 Calls prog 311 #[ι a,ι b] w λe d=>e=.returned (.tuple #[ι (wrap64 (a.tdiv b)),.nilIface])/\w=d:=by
 go_enter func311,ntmps311;go_wp2;go_ret2;exact⟨rfl,rfl⟩
theorem a3y(a:Int)(w:ω) :
 Calls prog 312 #[ι a,ι 0] w λe d=>e=.returned (.tuple #[ι 0,.iface 93 (ι 9)])/\w=d:=by
 go_enter func312,ntmps312;go_wp2;go_ret2;exact⟨rfl,rfl⟩
theorem a8s(a b:Int)(w:ω)(y:(b==0)=false)(z:¬b=0) :
 Calls prog 312 #[ι a,ι b] w λe d=>e=.returned (.tuple #[ι (a.tmod b),.nilIface])/\w=d:=by
 go_enter func312,ntmps312;go_wp2;go_ret2;exact⟨rfl,rfl⟩
theorem a3m(a b:Int)(w:ω) :
 Calls prog 314 #[ι a,ι b] w λe d=>e=.returned (ι (wrap64 (a+b)))/\w=d:=by
 go_enter func314,ntmps314;go_wp2;go_ret;exact⟨cw (a70 a b),rfl⟩
theorem akk(a b:Int)(w:ω) :
 Calls prog 300 #[ι a,ι b] w λe d=>e=.returned (ι (wrap64 (a-b)))/\w=d:=by
 go_enter func300,ntmps300;go_wp2;go_ret;exact⟨cw (a7x a b),rfl⟩
theorem aq8(a b:Int)(w:ω) :
 Calls prog 315 #[ι a,ι b] w λe d=>e=.returned (ι (wrap64 (a*b)))/\w=d:=by
 go_enter func315,ntmps315;go_wp2;go_ret;exact⟨cw (a7y a b),rfl⟩
theorem af6(a:Int)(w:ω)(h:a<0)(d:-9223372036854775808<=a) :
 Calls prog 324 #[ι a] w λe y=>e=.returned (.int .u64 (-a))/\w=y:=by
 go_enter func324,ntmps324;go_wp2;go_ret;exact⟨cw (aqw a h d),rfl⟩
theorem af5(a:Int)(w:ω)(h:0<=a)(y:a<=9223372036854775807) :
 Calls prog 324 #[ι a] w λe d=>e=.returned (.int .u64 a)/\w=d:=by
 go_enter func324,ntmps324;go_wp2;go_ret;exact⟨rfl,rfl⟩
theorem a73(a b:Int)(w:ω)(O:¬b=0)(d:0<=a)(E:a<=9223372036854775807)(z:0<=b)(F:b<=9223372036854775807) :
 Calls prog 316 #[ι a,ι b] w λe y=>e=.returned (ι (wrap64 (a.tdiv b)))/\w=y:=by
 have I:decide (a<0)=false:=by simpa using d
 have J:decide (b<0)=false:=by simpa using z
 go_enter func316,ntmps316;go_wp2_with (first | (go_at_call 324;(with_reducible refine (af5 a _ d E).mono ?_);rintro e y⟨rfl,rfl⟩) | (go_at_call 324;(with_reducible refine (af5 b _ z F).mono ?_);rintro e y⟨rfl,rfl⟩));go_ret;exact⟨cw (by rw[bbq a b d]),rfl⟩
theorem a77(a b:Int)(w:ω)(I:¬b=0)(y:a<0)(z:-9223372036854775808<=a)(E:b<0)(F:-9223372036854775808<=b) :
 Calls prog 316 #[ι a,ι b] w λe d=>e=.returned (ι (wrap64 (a.tdiv b)))/\w=d:=by
 go_enter func316,ntmps316;go_wp2_with (first | (go_at_call 324;(with_reducible refine (af6 a _ y z).mono ?_);rintro e d⟨rfl,rfl⟩) | (go_at_call 324;(with_reducible refine (af6 b _ E F).mono ?_);rintro e d⟨rfl,rfl⟩));go_ret;exact⟨cw (by rw[bbr a b y];exact bcm _),rfl⟩
theorem a76(a b:Int)(w:ω)(J:¬b=0)(z:a<0)(E:-9223372036854775808<=a)(y:0<=b)(F:b<=9223372036854775807) :
 Calls prog 316 #[ι a,ι b] w λe d=>e=.returned (ι (wrap64 (a.tdiv b)))/\w=d:=by
 have I:decide (b<0)=false:=by simpa using y
 go_enter func316,ntmps316;go_wp2_with (first | (go_at_call 324;(with_reducible refine (af6 a _ z E).mono ?_);rintro e d⟨rfl,rfl⟩) | (go_at_call 324;(with_reducible refine (af5 b _ y F).mono ?_);rintro e d⟨rfl,rfl⟩));go_ret;exact⟨cw (arg _),rfl⟩
theorem a74(a b:Int)(w:ω)(J:¬b=0)(y:0<=a)(z:a<=9223372036854775807)(E:b<0)(F:-9223372036854775808<=b) :
 Calls prog 316 #[ι a,ι b] w λe d=>e=.returned (ι (wrap64 (a.tdiv b)))/\w=d:=by
 have I:decide (a<0)=false:=by simpa using y
 go_enter func316,ntmps316;go_wp2_with (first | (go_at_call 324;(with_reducible refine (af5 a _ y z).mono ?_);rintro e d⟨rfl,rfl⟩) | (go_at_call 324;(with_reducible refine (af6 b _ E F).mono ?_);rintro e d⟨rfl,rfl⟩));go_ret;exact⟨cw (arg _),rfl⟩
theorem arj(a b:Int)(w:ω)(z:¬b=0)(d:uj a)(y:uj b) :
 Calls prog 316 #[ι a,ι b] w λe E=>e=.returned (ι (wrap64 (a.tdiv b)))/\w=E:=by
 by_cases p:0<=a<;>by_cases q:0<=b
 . exact a73 a b w z p d.2 q y.2
 . exact a74 a b w z p d.2 (by omega) y.1
 . exact a76 a b w z (by omega) d.1 q y.2
 . exact a77 a b w z (by omega) d.1 (by omega) y.1
theorem a3h(a b:Int)(w:ω)(E:¬b=0)(y:uj a)(z:uj b) :
 Calls prog 317 #[ι a,ι b] w λe d=>e=.returned (ι (a.tmod b))/\w=d:=by
 go_enter func317,ntmps317;go_wp2_with (first | (go_at_call 316;(with_reducible refine (arj a b _ E y z).mono ?_);rintro e d⟨rfl,rfl⟩) | (go_at_call 315;refine (aq8 _ _ _).mono ?_;rintro e d⟨rfl,rfl⟩) | (go_at_call 300;refine (akk _ _ _).mono ?_;rintro e d⟨rfl,rfl⟩));go_ret;exact⟨cw (a7z a b y),rfl⟩
inductive Vl where
 | ok (k n:Int)
 | bad (c:Int)
def Vl.code:Vl->Int
 | .ok _ _=>0
 | .bad c=>c
def Vl.kind:Vl->Int
 | .ok k _=>k
 | .bad _=>0
def Vl.num:Vl->Int
 | .ok _ n=>n
 | .bad _=>0
structure Md where
 ty:Bool
 env:List Int
 vars:Int
def Md.lim(m:Md):Int:=if m.ty=true then m.vars else (m.env.length:Int)
def aeb(b:Bool):Int:=if b=true then 1 else 0
def tru(b:Bool):Vl:=.ok 2 (aeb b)
def og(m:Md)(t:Tk):Vl :=
 if t.1=1 then .ok 1 t.2.1
 else if t.1=2 then (if t.2.1<m.lim then .ok 1 (if m.ty=true then 0 else m.env.getD t.2.1.toNat 0) else .bad 4)
 else tru (decide (t.1=15))
def unV(t:Tk):Vl->Vl
 | .bad c=>.bad c
 | .ok k n=>if t.1=14/\k=2 then tru (decide (n=0)) else if t.1=19/\k=1 then .ok 1 (wrap64 (-n)) else .bad 8
def jf(kd d an y bn:Int):Vl :=
 if d≠y then .bad 8
 else if kd=10 then tru (decide (an=bn))
 else if kd=11 then tru (!decide (an=bn))
 else if d=2 then
  if kd=12 then tru (decide (an=1)&&decide (bn=1))
  else if kd=13 then tru (decide (an=1)||decide (bn=1))
  else .bad 8
 else if kd=3 then .ok 1 (wrap64 (an+bn))
 else if kd=4 then .ok 1 (wrap64 (an-bn))
 else if kd=5 then .ok 1 (wrap64 (an*bn))
 else if kd=6 then (if bn=0 then .bad 9 else .ok 1 (wrap64 (an.tdiv bn)))
 else if kd=7 then (if bn=0 then .bad 9 else .ok 1 (an.tmod bn))
 else if kd=8 then tru (decide (an<bn))
 else if kd=9 then tru (decide (an<=bn))
 else .bad 8
def ag2(ty:Bool)(t:Tk):Vl->Vl->Vl
 | .bad c,_=>.bad c
 | .ok _ _,.bad c=>.bad c
 | .ok d y,.ok z E=>if ty=true/\(jf t.1 d y z E).code=9 then .ok 1 0 else jf t.1 d y z E
def aab(m:Md)(t:Tk)(S:List Vl):List Vl :=
 if mh t=0 then og m t::S
 else if mh t=1 then
  match S with
  | x::d=>unV t x::d
  | []=>[]
 else
  match S with
  | b::a::d=>ag2 m.ty t a b::d
  | _=>[]
def ayr(m:Md):List Tk->List Vl->List Vl
 | [],S=>S
 | t::r,S=>ayr m r (aab m t S)
theorem aep{m:Md}{t:Tk}(S:List Vl)(h:mh t=0):aab m t S=og m t::S:=by unfold aab;rw[ao h]
theorem aeo{m:Md}{t:Tk}(x:Vl)(S:List Vl)(h:mh t=1):aab m t (x::S)=unV t x::S:=by unfold aab;rw[ah (by omega),ao h]
theorem aen{m:Md}{t:Tk}(b a:Vl)(S:List Vl)(h:mh t=2):aab m t (b::a::S)=ag2 m.ty t a b::S:=by unfold aab;rw[ah (by omega),ah (by omega)]
theorem ah8(m:Md):∀(a b:List Tk)(S:List Vl),ayr m (a++b) S=ayr m b (ayr m a S)
 | [],_,_=>rfl
 | t::a,b,S=>ah8 m a b (aab m t S)
def vs(m:Md)(ts:List Tk)(i:Nat):List Vl:=ayr m (ts.take i) []
theorem aa3(m:Md){ts:List Tk}{i:Nat}(h:i<ts.length):vs m ts (i+1)=aab m (ts.getD i (0,0,0)) (vs m ts i):=by unfold vs;rw[List.take_add_one,ae h,ah8];simp[List.getD,ae h,ayr]
theorem ayq{m:Md}{t:Tk}{S:List Vl}(z:0<=mh t)(h:mh t<=S.length):((aab m t S).length:Int)=S.length-mh t+1:=by
 rcases ot t with c | c | c | c
 . omega
 . rw[aep _ c,c];simp
 . rcases S with _ | ⟨x,d⟩
   . rw[c]at h;simp at h
   . rw[aeo _ _ c,c];simp
 . rcases S with _ | ⟨x,_ | ⟨y,d⟩⟩
   . rw[c]at h;simp at h
   . rw[c]at h;simp at h
   . rw[aen _ _ _ c,c];simp;omega
theorem acb(m:Md)(ts:List Tk):∀i,i<=ts.length->td ts i->(vs m ts i).length=(stk ts i).length
 | 0,_,_=>rfl
 | i+1,F,d=>by have y:=acb m ts i (by omega) (d.mono (by omega));have E:=ahf d;have z:=ayq (m:=m) (S:=vs m ts i) (d i (by omega)).1 (by rw[y];exact (d i (by omega)).2);rw[<-aa3 m (by omega),y]at z;omega
def fb:List Vl->Option Int
 | []=>none
 | x::S=>match fb S with
  | some c=>some c
  | none=>match x with
   | .bad c=>some c
   | .ok _ _=>none
theorem ox(x:Vl)(S:List Vl):fb (x::S)=(fb S).orElse λ_=>match x with | .bad c=>some c | .ok _ _=>none:=by show (match fb S with | some c=>some c | none=>match x with | .bad c=>some c | .ok _ _=>none)=_;cases fb S<;>rfl
theorem a9b{m:Md}{t:Tk}{S:List Vl}{c:Int}(F:0<=mh t)(h:mh t<=S.length)(y:fb S=some c):fb (aab m t S)=some c:=by
 rcases ot t with e | e | e | e
 . omega
 . rw[aep _ e,ox,y];rfl
 . rcases S with _ | ⟨x,E⟩
   . cases y
   . rw[aeo _ _ e];rw[ox]at y ⊢;cases z:fb E with
     | some d=>rw[z]at y;exact y
     | none =>
      rw[z]at y
      cases x with
      | bad d=>exact y
      | ok k n=>cases y
 . rcases S with _ | ⟨b,_ | ⟨a,E⟩⟩
   . cases y
   . rw[e]at h;simp at h
   . rw[aen _ _ _ e];rw[ox,ox]at y;rw[ox];cases z:fb E with
     | some d=>rw[z]at y;exact y
     | none =>
      rw[z]at y
      cases a with
      | bad d=>exact y
      | ok k n =>
       cases b with
       | bad d=>exact y
       | ok I J=>cases y
theorem a43(m:Md){ts:List Tk}{i:Nat}{c:Int}(y:fb (vs m ts i)=some c):∀n,i+n<=ts.length->td ts (i+n)->fb (vs m ts (i+n))=some c
 | 0,_,_=>y
 | n+1,E,d=>by have z:=a43 m y n (by omega) (d.mono (by omega));rw[show i+(n+1)=i+n+1 from rfl,aa3 m (by omega)];exact a9b (d (i+n) (by omega)).1 (by rw[acb m ts _ (by omega) (d.mono (by omega))];exact (d (i+n) (by omega)).2) z
theorem bam(m:Md){ts:List Tk}(z:td ts ts.length)(y:(stk ts ts.length).length=1):∃v,vs m ts ts.length=[v]:=by have d:=acb m ts ts.length (ai _) z;rw[y]at d;exact List.length_eq_one_iff.1 d
theorem ag3(m:Md){ts:List Tk}{i:Nat}{c:Int}{v:Vl}{S:List Vl}(F:td ts ts.length)(I:i<=ts.length)(E:vs m ts ts.length=[v])(y:vs m ts i=.bad c::S)(z:fb S=none):v=.bad c:=by
 have h:=a43 m (c:=c) (ts:=ts) (i:=i) (by rw[y,ox,z];rfl) (ts.length-i) (by omega) (by rw[show i+(ts.length-i)=ts.length by omega];exact F);rw[show i+(ts.length-i)=ts.length by omega,E,ox]at h;cases v with
 | ok k n=>cases h
 | bad d=>injection h with h;rw[h]
theorem ace{t:Tk}(h:mh t=0):t.2.2=0/\0<=t.2.1/\(t.1=1\/(t.1=2/\t.2.1<26)\/(t.1=15/\t.2.1=0)\/(t.1=16/\t.2.1=0)):=by
 obtain⟨k,n,a⟩:=t;unfold mh at h;simp only at h ⊢;split at h;· omega
 split at h;· omega
 split at h;· omega
 split at h;· omega
 split at h;· omega
 split at h<;>omega
theorem afw{t:Tk}(h:mh t=1):t=(14,0,0)\/t=(19,0,0):=by
 obtain⟨k,n,a⟩:=t;unfold mh at h;simp only at h;split at h;· omega
 split at h;· omega
 split at h;· omega
 split at h;· omega
 split at h
 . rename_i y z E F d;obtain rfl:a=0:=(by omega);obtain rfl:n=0:=(by omega);rcases d with rfl | rfl
   . exact .inl rfl
   . exact .inr rfl
 . split at h<;>omega
theorem a8v{k:Int}(h:lvl k≠0):3<=k/\k<=13:=by
 unfold lvl at h;split at h;· omega
 split at h;· omega
 split at h;· omega
 split at h;· omega
 split at h
 . omega
 . exact absurd rfl h
theorem afv{t:Tk}(h:mh t=2):∃k,t=(k,0,0)/\3<=k/\k<=13:=by
 obtain⟨k,n,a⟩:=t;unfold mh at h;simp only at h;split at h;· omega
 split at h;· omega
 split at h;· omega
 split at h;· omega
 split at h;· omega
 split at h
 . rename_i y z E F I d;obtain rfl:a=0:=(by omega);obtain rfl:n=0:=(by omega);exact⟨k,rfl,a8v d⟩
 . omega
def sr:Vl->Prop
 | .bad c=>c=4\/c=8\/c=9
 | .ok k n=>(k=1/\uj n)\/(k=2/\(n=0\/n=1))
theorem a7e(b:Bool):aeb b=0\/aeb b=1:=by cases b<;>simp[aeb]
theorem um(b:Bool):sr (tru b):=.inr ⟨rfl,a7e b⟩
theorem aca(x:Int):uj (wrap64 x):=by unfold uj wrap64;omega
theorem a19{a:Int}(b:Int)(y:uj a):uj (a.tmod b):=by have h:=Int.natAbs_tmod a b;have d:a.natAbs%b.natAbs<=a.natAbs:=Nat.mod_le _ _;have p:=ard a b;have n:=arf a b;unfold uj at *;omega
theorem az9(m:Md){t:Tk}(h:mh t=0)(Q:t.2.1<=9223372036854775807)(I:∀x∈m.env,uj x):sr (og m t):=by
 obtain⟨_,J,O⟩:=ace h;unfold og;by_cases z:t.1=1
 . rw[ao z];exact .inl ⟨rfl,by unfold uj;omega⟩
 . rw[ah z];by_cases E:t.1=2
   . rw[ao E];by_cases d:t.2.1<m.lim
     . rw[ao d];refine .inl ⟨rfl,?_⟩;by_cases y:m.ty=true
       . rw[ao y];unfold uj;omega
       . rw[ah y];unfold Md.lim at d;rw[ah y]at d;have F:t.2.1.toNat<m.env.length:=(by omega);rw[List.getD,ae F];exact I _ (bw F)
     . rw[ah d];exact .inl rfl
   . rw[ah E];exact um _
theorem at8(t:Tk)(k n:Int):unV t (.ok k n)=if t.1=14/\k=2 then tru (decide (n=0)) else if t.1=19/\k=1 then .ok 1 (wrap64 (-n)) else .bad 8:=rfl
theorem ax8(ty:Bool)(t:Tk)(d an y bn:Int):ag2 ty t (.ok d an) (.ok y bn)=if ty=true/\(jf t.1 d an y bn).code=9 then .ok 1 0 else jf t.1 d an y bn:=rfl
theorem a66{t:Tk}{x:Vl}(d:sr x):sr (unV t x):=by
 cases x with
 | bad c=>exact d
 | ok k n =>
  rw[at8];split
  . exact um _
  . split
    . exact .inl ⟨rfl,aca _⟩
    . exact .inr (.inl rfl)
theorem a11{kd d an y bn:Int}(F:sr (.ok d an))(J:sr (.ok y bn)):sr (jf kd d an y bn):=by
 unfold jf;split;· exact .inr (.inl rfl)
 split;· exact um _
 split;· exact um _
 split
 . split;· exact um _
   split;· exact um _
   exact .inr (.inl rfl)
 . rename_i I _ _ E;have z:uj an:=by
    rcases F with ⟨_,h⟩ | ⟨h,_⟩
    . exact h
    . exact absurd h E
   split;· exact .inl ⟨rfl,aca _⟩
   split;· exact .inl ⟨rfl,aca _⟩
   split;· exact .inl ⟨rfl,aca _⟩
   split
   . split
     . exact .inr (.inr rfl)
     . exact .inl ⟨rfl,aca _⟩
   split
   . split
     . exact .inr (.inr rfl)
     . exact .inl ⟨rfl,a19 _ z⟩
   split;· exact um _
   split;· exact um _
   exact .inr (.inl rfl)
theorem a5v{ty:Bool}{t:Tk}{a b:Vl}(d:sr a)(y:sr b):sr (ag2 ty t a b):=by
 cases a with
 | bad c=>exact d
 | ok z E =>
  cases b with
  | bad c=>exact y
  | ok F I =>
   rw[ax8]
   split
   . exact .inl ⟨rfl,by unfold uj;omega⟩
   . exact a11 d y
def aj0(S:List Vl):Prop:=∀x∈S,sr x
theorem ay4(m:Md){t:Tk}{S:List Vl}(U:0<=mh t)(h:mh t<=S.length)(Q:t.2.1<=9223372036854775807)(O:∀x∈m.env,uj x)(d:aj0 S):aj0 (aab m t S):=by
 rcases ot t with c | c | c | c
 . omega
 . rw[aep _ c];intro x E;rcases ij.1 E with rfl | E
   . exact az9 m c Q O
   . exact d x E
 . rcases S with _ | ⟨x,J⟩
   . rw[c]at h;simp at h
   . rw[aeo _ _ c];intro y F;rcases ij.1 F with rfl | F
     . exact a66 (d x (by simp))
     . exact d y (by simp[F])
 . rcases S with _ | ⟨x,_ | ⟨y,J⟩⟩
   . rw[c]at h;simp at h
   . rw[c]at h;simp at h
   . rw[aen _ _ _ c];intro z I;rcases ij.1 I with rfl | I
     . exact a5v (d y (by simp)) (d x (by simp))
     . exact d z (by simp[I])
theorem afr(m:Md){ts:List Tk}(z:∀t∈ts,t.2.1<=9223372036854775807)(y:∀x∈m.env,uj x):∀i,i<=ts.length->td ts i->aj0 (vs m ts i)
 | 0,_,_=>λx E=>by cases E
 | i+1,I,d=>by have F:=afr m z y i (by omega) (d.mono (by omega));rw[aa3 m (by omega)];refine ay4 m (d i (by omega)).1 (by rw[acb m ts _ (by omega) (d.mono (by omega))];exact (d i (by omega)).2) ?_ y F;rw[List.getD,ae (show i<ts.length by omega)];exact z _ (bw _)
def py(k:Int):Int×Int×Int :=
 if k=15\/k=16 then (0,0,2)
 else if 3<=k/\k<=7 then (2,1,1)
 else if k=19 then (1,1,1)
 else if k=8\/k=9 then (2,1,2)
 else if k=10\/k=11 then (2,0,2)
 else if k=12\/k=13 then (2,2,2)
 else if k=14 then (1,2,2)
 else (0,0,1)
def tks:Int->List Int->Bool
 | _,[]=>true
 | d,k::r=>if d=0 then tks k r else if k=d then tks d r else false
theorem a3b{t:Tk}(h:mh t=0):(py t.1).1=0/\(py t.1).2.1=0:=by obtain ⟨_,_,h | ⟨h,_⟩ | ⟨h,_⟩ | ⟨h,_⟩⟩:=ace h<;>rw[h]<;>decide
theorem anf{m:Md}{t:Tk}(d:t.1=2)(y:m.lim<=t.2.1):og m t=.bad 4:=by unfold og;rw[ah (by omega),ao d,ah (by omega)]
theorem ane{m:Md}{t:Tk}(h:mh t=0)(d:¬(t.1=2/\m.lim<=t.2.1)):∃n,og m t=.ok (py t.1).2.2 n:=by
 obtain⟨_,_,c | ⟨c,_⟩ | ⟨c,_⟩ | ⟨c,_⟩⟩:=ace h
 . exact⟨t.2.1,by unfold og;rw[ao c,c];rfl⟩
 . refine⟨if m.ty=true then 0 else m.env.getD t.2.1.toNat 0,?_⟩;unfold og;rw[ah (by omega),ao c,ao (by omega),c];rfl
 . refine⟨aeb (decide (t.1=15)),?_⟩;unfold og tru;rw[ah (by omega),ah (by omega),c];rfl
 . refine⟨aeb (decide (t.1=15)),?_⟩;unfold og tru;rw[ah (by omega),ah (by omega),c];rfl
theorem ban{t:Tk}(h:mh t=1):(py t.1).1=1:=by rcases afw h with rfl | rfl<;>decide
theorem awu{t:Tk}{k n:Int}(h:mh t=1)(d:k=1\/k=2) :
 (tks (py t.1).2.1 [k]=true->∃y,unV t (.ok k n)=.ok (py t.1).2.2 y)/\(tks (py t.1).2.1 [k]=false->unV t (.ok k n)=.bad 8):=by
 rcases afw h with rfl | rfl<;>rcases d with rfl | rfl
 . exact⟨λh=>absurd h (by decide),λ_=>by simp[unV]⟩
 . exact⟨λ_=>⟨aeb (decide (n=0)),by simp[unV,tru];decide⟩,λh=>absurd h (by decide)⟩
 . exact⟨λ_=>⟨wrap64 (-n),by simp[unV];decide⟩,λh=>absurd h (by decide)⟩
 . exact⟨λh=>absurd h (by decide),λ_=>by simp[unV]⟩
theorem a9n{t:Tk}(h:mh t=2):(py t.1).1=2:=by
 obtain⟨k,rfl,y,d⟩:=afv h;obtain rfl | rfl | rfl | rfl | rfl | rfl | rfl | rfl | rfl | rfl | rfl:k=3\/k=4\/k=5\/k=6\/k=7\/k=8\/k=9\/k=10\/k=11\/k=12\/k=13:=by omega
 all_goals decide
theorem a5u{ty:Bool}{t:Tk}{d an y bn:Int}(h:mh t=2)(z:d=1\/d=2)(E:y=1\/y=2) :
 (tks (py t.1).2.1 [d,y]=true->(∃n,ag2 ty t (.ok d an) (.ok y bn)=.ok (py t.1).2.2 n)\/(ty=false/\ag2 ty t (.ok d an) (.ok y bn)=.bad 9))
   /\(tks (py t.1).2.1 [d,y]=false->ag2 ty t (.ok d an) (.ok y bn)=.bad 8):=by
 obtain⟨k,rfl,J,I⟩:=afv h;obtain rfl | rfl | rfl | rfl | rfl | rfl | rfl | rfl | rfl | rfl | rfl:k=3\/k=4\/k=5\/k=6\/k=7\/k=8\/k=9\/k=10\/k=11\/k=12\/k=13:=by omega
 all_goals
  rcases z with rfl | rfl<;>rcases E with rfl | rfl
  all_goals
   by_cases F:bn=0<;>cases ty<;>simp[tks,py,ag2,jf,Vl.code,tru,F]
theorem abl(b:Bool)(w:ω):Calls prog 286 #[.bool b] w λe d=>e=.returned (ι (aeb b))/\w=d:=by
 cases b;all_goals
  go_enter func286,ntmps286
  go_wp2
  go_ret
  exact⟨rfl,rfl⟩
def tv(k x y:Int):Bool :=
 if k=8 then decide (x<y) else if k=9 then decide (x<=y) else if k=10 then decide (x=y) else if k=11 then !decide (x=y)
 else if k=12 then !decide (x=0)&&!decide (y=0) else !decide (x=0)||!decide (y=0)
theorem a0g(k x y:Int)(w:ω)(F:8<=k/\k<=13):Calls prog 313 #[ι k,ι x,ι y] w λe E=>e=.returned (.bool (tv k x y))/\w=E:=by
 obtain rfl | rfl | rfl | rfl | rfl | rfl:k=8\/k=9\/k=10\/k=11\/k=12\/k=13:=by omega
 . go_enter func313,ntmps313;go_wp2;go_ret;exact⟨az (by simp[tv]),rfl⟩
 . go_enter func313,ntmps313;go_wp2;go_ret;exact⟨az (by simp[tv]),rfl⟩
 . go_enter func313,ntmps313;go_wp2;go_ret;exact⟨az (by simp[tv];rfl),rfl⟩
 . go_enter func313,ntmps313;go_wp2;go_ret;exact⟨az (by simp[tv];rfl),rfl⟩
 . by_cases h:x=0
   . have d:(x != 0)=false:=(by simp[h]);have z:(x==0)=true:=(by simp[h]);go_enter func313,ntmps313;go_wp2;go_ret;exact⟨az (by simp[tv,h]),rfl⟩
   . have d:(x != 0)=true:=(by simp[h]);have z:(x==0)=false:=(by simp[h]);go_enter func313,ntmps313;go_wp2;go_ret;exact⟨az (by simp[tv,h];rfl),rfl⟩
 . by_cases h:x=0
   . have d:(x != 0)=false:=(by simp[h]);have z:(x==0)=true:=(by simp[h]);go_enter func313,ntmps313;go_wp2;go_ret;exact⟨az (by simp[tv,h];rfl),rfl⟩
   . have d:(x != 0)=true:=(by simp[h]);have z:(x==0)=false:=(by simp[h]);go_enter func313,ntmps313;go_wp2;go_ret;exact⟨az (by simp[tv,h]),rfl⟩
theorem aoq{F:Func}{r:Tmp}(O:F.results=#[.cell r 260])(J:Array Value)(w:ω)(g:Nat)(a b c:Value)
 (I:J.getD r undef=φ g 0)(d:cg w g 260 #[a,b,c]) :
 (results F J).run prog w=.ok (.agg #[a,b,c]) w:=by
 have y:=d.cell 0;have z:=d.cell 1;have E:=d.cell 2;simp at y z E I;simp[results,O,I,go_sem,y,z,E]
theorem a7w{k a b c:Int}(h:py k=(a,b,c)):Ending.returned (.agg #[ι a,ι b,ι c])=.returned (.agg #[ι (py k).1,ι (py k).2.1,ι (py k).2.2]):=by rw[h]
theorem abc(k:Int)(w:ω):Calls prog 259 #[ι k] w λe d=>e=.returned (.agg #[ι (py k).1,ι (py k).2.1,ι (py k).2.2])/\κ w d:=by
 go_enter func259,ntmps259;go_wp2;all_goals
  refine bodyPost_ret (aoq Tryz.results259 _ _ w.heap.size _ _ _ (by rfl) (cg.new w 260 _)) rfl ⟨a7w ?_,(ag _ _).alloc (ai _) _⟩
  unfold py
  (repeat' split)<;>first | rfl | (exfalso;omega) | (exfalso;simp_all;omega) | (exfalso;simp_all)
def fe(w:ω)(v:Value)(xs:List Int):Prop :=
 ∃(A:Option Addr)(d:Nat),v=.slice A xs.length d/\xs.length<=d/\∀(i:Nat)(x:Int),xs[i]?=some x->∃b o:Nat,A=some (δ b o)/\b<w.heap.size/\w.cell? (δ b (o+i))=some (ι x)
theorem fe.below{w z:ω}{v:Value}{xs:List Int}(h:fe w v xs)(d:κ w z):fe z v xs:=by obtain ⟨A,E,U,J,O⟩:=h;refine⟨A,E,U,J,λi t Q=>?_⟩;obtain⟨b,o,I,y,F⟩:=O i t Q;exact⟨b,o,I,c8 y d.size,(d.cell (p:=(δ b _)) y).trans F⟩
theorem a2a(k:Int)(r:List Int):tks 0 (k::r)=tks k r:=by rw[tks,ao rfl]
theorem a2b{k:Int}(r:List Int)(h:k≠0):tks k (k::r)=tks k r:=by rw[tks,ah h,ao rfl]
theorem ayw{k j:Int}(r:List Int)(h:k≠0)(d:j≠k):tks k (j::r)=false:=by rw[tks,ah h,ah d]
theorem af9(c y Y:Int)(v:Value)(xs:List Int)(w:ω)(hv:fe w v xs)(hx:∀x∈xs,x≠0)(hl:xs.length<=1000) :
 Calls prog 260 #[.agg #[ι c,ι y,ι Y],v] w λe w'=>e=.returned (.bool (tks y xs))/\κ w w':=by
 obtain⟨A,al,rfl,hc,Z⟩:=hv;have HE:=aa Z;have HX:=aa hx;clear Z hx;go_enter func260,ntmps260;go_wp2_with fail;go_loopw [9] (λi wr=>∃(k:Nat)(j:Int),k<=xs.length/\i=ι (k:Int)/\Hid (tks j (xs.drop k)=tks y xs)/\cg wr w.heap.size 260 #[ι c,ι j,ι Y]/\κ w wr) (λi _=>xs.length-(intOf i).toNat)
 case atStart=>exact ⟨0,y,ar _,rfl,aa rfl,cg.new _ _ _,(ag _ _).alloc (ai _) _⟩
 case round =>
  obtain⟨k,j,hk,rfl,d,F,E⟩:=hrel;obtain⟨U,rfl⟩:∃U:ω,U=wr:=⟨_,rfl⟩;obtain⟨⟨d0,d1,d2⟩,e0,e1,e2⟩:=F.ax;by_cases O:k<xs.length
  . obtain⟨b,o,rfl,ad,W⟩:=HE.out k xs[k] (ae O);have W:U.cell? (δ b (o+k))=_:=(E.cell (p:=(δ b _)) ad).trans W;have J:=aa (bp O);have av:=HX.out xs[k] (bw O);generalize xs[k]=x at *;have V:=aa F;clear F;by_cases I:j=0
    . subst I;have z:=aa (show tks x (xs.drop (k+1))=tks y xs by rw[<-d.out,J.out,a2a]);clear d;go_wp2;go_roundw
      case rel=>exact ⟨k+1,x,by omega,by go_num,z,V.ca 1 _,E.setCell (by simp) _⟩
      case measure=>simp[intOf];omega
    . have am:(j==0)=false:=(by simpa using I);by_cases Q:x=j
      . subst Q;have z:=aa (show tks x (xs.drop (k+1))=tks y xs by rw[<-d.out,J.out,a2b _ I]);have ak:(x != x)=false:=(by simp);clear d;go_wp2;go_roundw
        case rel=>exact ⟨k+1,x,by omega,by go_num,z,V,E⟩
        case measure=>simp[intOf];omega
      . have z:=aa (show tks y xs=false by rw[<-d.out,J.out,ayw _ I Q]);have ak:(x != j)=true:=(by simpa using Q);clear d;go_wp2;go_ret;exact⟨by rw[z.out];rfl,E⟩
  . obtain rfl:k=xs.length:=(by omega);have z:=aa (show tks y xs=true by rw[<-d.out,bz,tks]);clear d F;go_wp2;go_ret;exact⟨by rw[z.out];rfl,E⟩
def bg(xs:List Int):List Value:=xs.map λx=>ι x
theorem pe(xs:List Int):(bg xs).length=xs.length:=by simp[bg]
theorem nu(xs ys:List Int):bg (xs++ys)=bg xs++bg ys:=by simp[bg]
theorem fl(x:Int):∀u∈ [Value.int .i64 x],u.oneCell'=true:=by intro u d;obtain rfl:=cf.1 d;rfl
theorem Tryz.info3:(Tryz.prog.info? 3).map (λi=>(i.zero,i.size,i.bytes))=some (some (ι 0),1,8):=by kernel_rfl
theorem Tryz.ah7:(Tryz.prog.info? 2).map (λi=>(i.zero,i.size,i.bytes))=some (some (ι 0),1,8):=by kernel_rfl
theorem akv{w:ω}{B:Nat}{e:TypeId}{g n k cap:Nat}{xs ys:List Value}(h:w.ownsRow B e 1 (.slice (some (δ g 0)) n cap) n xs)(y:ys.length=k)(Z:∃z,xs=ys++z):w.ownsRow B e 1 (.slice (some (δ g 0)) k cap) k ys:=by
 obtain⟨z,rfl⟩:=Z;refine⟨by omega,?_⟩;rcases h.2 with ⟨I,_⟩ | ⟨F,ad,E,d,J,O,h4,Q,U,V⟩
 . cases I
 . injection d with d h8 W;subst W;have Y:=h.1;rw[aw]at Y;refine .inr ⟨F,cap,E,by rw[<-y]at *;injection d with d;rw[d],J,O,by omega,Q,U,?_⟩;have:=congrArg (List.take k) V;rw[List.take_take,show min k (n*1)=k*1 by omega]at this;rw[this,<-y,List.take_left]
theorem m6{w:ω}{B:Nat}{e:TypeId}{g n cap:Nat}{xs:List Value}(h:w.ownsRow B e 1 (.slice (some (δ g 0)) n cap) n xs)(j:Nat)(x:Value)(d:xs[j]?=some x):w.cell? (δ g j)=some x:=by
 have y:j<n:=by have:=(bo.1 d).1;rw[h.1]at this;omega
 rw[h.cellAt j (by omega),d]
theorem adr{w:ω}{B:Nat}{e:TypeId}{g n cap:Nat}{xs:List Value}(h:w.ownsRow B e 1 (.slice (some (δ g 0)) n cap) n xs):n<=cap:=by
 rcases h.2 with ⟨y,_⟩ | ⟨F,z,E,d,I,J,O,Q,U,V⟩
 . cases y
 . injection d with d W Y;omega
theorem asg{w:ω}{B:Nat}{e:TypeId}{g q c cap:Nat}{ys d:List Int}(h:w.ownsRow B e 1 (.slice (some (δ g 0)) (q+c) cap) (q+c) (bg (ys++d)))(E:ys.length=q)(y:d.length=c):fe w (.slice (some (δ g q)) c (cap-q)) d:=by have F:=adr h;refine⟨some (δ g q),cap-q,by rw[y],by omega,λi x z=>⟨g,q,rfl,(h.lt g rfl).2,?_⟩⟩;refine m6 h (q+i) _ ?_;rw[nu,ga (by rw[pe];omega),pe,E,nm];simp[bg,z]
theorem asf(w:ω)(A:Option Addr)(cap:Nat):fe w (.slice A 0 cap) []:=⟨A,cap,rfl,ar _,λi x h=>by simp at h⟩
theorem fe.drew{w:ω}{v:Value}{xs:List Int}(h:fe w v xs):fe w.drew v xs:=h
def a9z(c:Int)(w:ω)(e:Ending)(d:ω):Prop:=e=.returned (.tuple #[.slice none 0 0,.iface 93 (ι c)])/\κ w d
def SOk(B:Nat)(v:Value)(L:List Int)(w:ω)(e:Ending)(d:ω):Prop :=
 ∃g y:Nat,e=.returned (.tuple #[.slice (some (δ g 0)) L.length y,.nilIface])/\w.grownBy d v.ownBlock/\d.ownsRow B 3 1 (.slice (some (δ g 0)) L.length y) L.length (bg L)/\(v.ownBlock=some g\/w.heap.size<=g)/\g<d.heap.size
theorem ac6{w E F:ω}{r:Option Nat}(d:κ w E)(y:E.grownBy F r):w.grownBy F r :=
 ⟨y.os.trans d.os,y.tape.trans d.tape,y.output.trans d.output,a6 d.size y.size,λi z I=>(y.block i (c8 z d.size) I).trans (d.block i z)⟩
theorem ay3(v:Value)(x a d:Int)(w:ω)(h:d<=x):Calls prog 214 #[v,.agg #[ι 2,ι x,ι a],ι d] w (a9z 4 w):=by
 have y:decide (d<=x)=true:=by simpa using h
 go_enter func214,ntmps214;go_wp2;go_ret2;exact⟨rfl,(ag _ _).alloc (ai _) _⟩
theorem acy(w:ω)(x:Int)(t:TypeId):∀j u,[Value.int .i64 x][j]?=some u->(w.alloc (.cells #[ι x] t)).cell? (((δ w.heap.size 0):Addr).add j)=some u:=by
 intro j u d;cases j with
 | zero =>simp at d;subst d;exact(cg.new w t #[ι x]).cell 0
 | succ j=>simp at d
theorem cg.amw{w:ω}{g:Nat}{t:TypeId}{x y z:Value}(h:cg w g t #[x,y,z]):w.cell? (δ g 0)=some x/\w.cell? (δ g 1)=some y/\w.cell? (δ g 2)=some z:=⟨h.cell 0,h.cell 1,h.cell 2⟩
theorem aed(kd x a F:Int)(B g q c cap:Nat)(ys d:List Int)(w:ω)(z:w.ownsRow B 3 1 (.slice (some (δ g 0)) (q+c) cap) (q+c) (bg (ys++d)))(Z:ys.length=q)(Q:d.length=c)(hq:q<cap)(hl:q+c<=1000)(V:(py kd).1=(c:Int))(U:∀k∈d,k≠0)(E:(kd==2)=false\/(kd=2/\x<F))(Y:tks (py kd).2.1 d=false) :
 Calls prog 214 #[.slice (some (δ g 0)) (q+c) cap,.agg #[ι kd,ι x,ι a],ι F] w (a9z 8 w):=by
 have ax:=aa z;have am:=aa U;have a1:=aa Y;have HY:=aa Z;have I:=aa Q;have HR:=aa (λW=>abc kd W);have a0:=aa V;have a3:=adr z;have ad:=aa ((ag w.heap.size w).alloc (ai _) (.cells #[ι kd,ι x,ι a] 206));have e5:(q:Int)<=(q:Int)+(c:Int):=by omega
 have e6:(q:Int)<(cap:Int):=by omega
 have e7:q<cap:=by omega
 have a2:q<=cap:=by omega
 have e1:¬cap=q:=by omega
 have e2:(cap==q)=false:=by simp;omega
 have e3:¬(cap:Int)=(q:Int):=by omega
 have e8:¬cap<=q:=by omega
 have e9:¬q=cap:=by omega
 clear z U Y Z Q V;generalize (py kd).1=rc at *;generalize (py kd).2.1=rk at *;generalize (py kd).2.2=rg at *;obtain rfl:rc=(c:Int):=a0.out;rcases E with E | ⟨rfl,E⟩;all_goals
  try have a4:decide (F<=x)=false:=by simp;omega
  go_enter func214,ntmps214
  go_wp2_with fail
  refine(HR _).mono ?_
  rintro e w1⟨rfl,J⟩
  have y:=aa (ad.trans (J.mono (by simp)))
  have av:=aa (bl ax y)
  clear J
  go_wp2_with fail
  have al:=aa (asg (bl av ((ag _ _).alloc (ai _) (.cells #[ι (c:Int),ι rk,ι rg] 260))) HY I)
  have HT:=aa (af9 (c:Int) rk rg _ d _ al.drew am (by have:=I.out;omega))
  first
   | (go_region_with (go_at_call 260;refine (HT).mono ?_;rintro e w2⟨rfl,O⟩;have ak:=aa O;clear O))
   | fail
  rw[a1.out]
  go_wp2
  go_ret2
  exact⟨rfl,(y.alloc y.size _).drew.trans (ak.mono (by simp;have:=y.size;omega))⟩
theorem aa7(kd x a V:Int)(B g q c cap:Nat)(ys d:List Int)(w:ω)(Q:w.ownsRow B 3 1 (.slice (some (δ g 0)) (q+c) cap) (q+c) (bg (ys++d)))(hy:ys.length=q)(hk:d.length=c)(hq:q<cap)(hl:q+c<=1000)(hr:(py kd).1=(c:Int))(ax:∀k∈d,k≠0)(U:(kd==2)=false\/(kd=2/\x<V))(hB:B<=w.heap.size)(a1:tks (py kd).2.1 d=true) :
 Calls prog 214 #[.slice (some (δ g 0)) (q+c) cap,.agg #[ι kd,ι x,ι a],ι V] w (SOk B (.slice (some (δ g 0)) (q+c) cap) (ys ++ [(py kd).2.2]) w):=by
 obtain⟨i0,HI,bs,bt,b0⟩:=ιp Tryz.info3;have Z:=aa Q;have a9:=aa ax;have bk:=aa a1;have I:=aa hy;have Y:=aa hk;have HR:=aa (λW=>abc kd W);have bf:=aa hr;have b4:=adr Q;have a3:=aa ((ag w.heap.size w).alloc (ai _) (.cells #[ι kd,ι x,ι a] 206));have e5:(q:Int)<=(q:Int)+(c:Int):=by omega
 have e6:(q:Int)<(cap:Int):=by omega
 have e7:q<cap:=by omega
 have b2:q<=cap:=by omega
 have e1:¬cap=q:=by omega
 have e2:(cap==q)=false:=by simp;omega
 have e3:¬(cap:Int)=(q:Int):=by omega
 have e8:¬cap<=q:=by omega
 have e9:¬q=cap:=by omega
 clear Q ax a1 hy hk hr;generalize (py kd).1=rc at *;generalize (py kd).2.1=rk at *;generalize (py kd).2.2=y at *;obtain rfl:rc=(c:Int):=bf.out;rcases U with U | ⟨rfl,U⟩;all_goals
  try have b5:decide (V<=x)=false:=by simp;omega
  go_enter func214,ntmps214
  go_wp2_with fail
  refine(HR _).mono ?_
  rintro e w1⟨rfl,ak⟩
  have F:=aa (a3.trans (ak.mono (by simp)))
  have ba:=aa (bl Z F)
  clear ak
  go_wp2_with fail
  have a4:=aa (asg (bl ba ((ag _ _).alloc (ai _) (.cells #[ι (c:Int),ι rk,ι y] 260))) I Y)
  have HT:=aa (af9 (c:Int) rk y _ d _ a4.drew a9 (by have:=Y.out;omega))
  first
   | (go_region_with (go_at_call 260;refine (HT).mono ?_;rintro e E⟨rfl,al⟩;have J:=aa al;clear al))
   | fail
  rw[bk.out]
  have z:=aa ((F.alloc F.size _).drew.trans (J.mono (by simp;have:=F.size;omega)))
  have bb:=aa (akv (k:=q) (ys:=bg ys) (bl Z z) (by rw[pe];exact I) ⟨_,nu ys d⟩)
  obtain⟨r0,r1,r2⟩:=((cg.new w1 260 #[ι (c:Int),ι rk,ι y]).drewN 1 |>.below J (by simp)).amw
  have b7:w1.heap.size<E.heap.size:=by have:=J.size;simp at this;omega
  have b3:B<=E.heap.size:=a6 hB z.size
  have b6:q<=1000:=by omega
  go_wp2_with fail
  go_region_law ((refine step_append_lies _ (by rfl) _ _ _ (by rfl) B 3 i0 _ 1 8 underlying36 HI bs bt b0 rfl (by omega) (.slice (some (δ g 0)) q cap) q (bg ys) (by rfl) ((bb.alloc _).drew) (δ E.heap.size 0) 1 1 [ι y] (by rfl) (by rfl) (World.news_of_block (cs:=#[ι y]) (t:=3) (fr:=(0,0)) (heap_alloc_new E _)) (fl y) (by omega) (by unfold maxLen;omega) (by omega) (by simp;omega) (E.heap.size+1) (by simp) ?_;intro O b1 w3 a0 am ad av))
  all_goals
   have HG:=aa (ac6 (z.alloc z.size _).drew am)
   have HO:=aa a0
   have a2:=aa (show (Value.slice (some (δ g 0)) (q+c) cap).ownBlock=some O\/w.heap.size<=O by
    rcases ad with h | h
    . exact .inl h
    . right;have:=z.size;omega)
   have a5:=aa av
   clear a0 am ad av
   go_wp2
   go_ret2
   refine⟨O,b1,?_,HG,?_,a2,a5⟩
   . rw[aw,I.out];rfl
   . rw[nu,aw,I.out];exact HO
theorem ay5(kd x a O:Int)(B g q:Nat)(ys:List Int)(w:ω)(ak:w.ownsRow B 3 1 (.slice (some (δ g 0)) q q) q (bg ys))(hy:ys.length=q)(hl:q<=1000)(hr:(py kd).1=0)(J:(kd==2)=false\/(kd=2/\x<O))(hB:B<=w.heap.size) :
 Calls prog 214 #[.slice (some (δ g 0)) q q,.agg #[ι kd,ι x,ι a],ι O] w (SOk B (.slice (some (δ g 0)) q q) (ys ++ [(py kd).2.2]) w):=by
 obtain⟨i0,HI,a4,a5,a9⟩:=ιp Tryz.info3;have a2:=aa ak;have Q:=aa hy;have HR:=aa (λW=>abc kd W);have a3:=aa hr;have ax:=aa ((ag w.heap.size w).alloc (ai _) (.cells #[ι kd,ι x,ι a] 206));clear ak hy hr;generalize (py kd).1=rc at *;generalize (py kd).2.1=rk at *;generalize (py kd).2.2=y at *;obtain rfl:rc=0:=a3.out;rcases J with J | ⟨rfl,J⟩;all_goals
  try have bk:decide (O<=x)=false:=by simp;omega
  go_enter func214,ntmps214
  go_wp2_with fail
  refine(HR _).mono ?_
  rintro e w1⟨rfl,V⟩
  have F:=aa (ax.trans (V.mono (by simp)))
  clear V
  go_wp2_with fail
  have HT:=aa (λA ba W=>af9 0 rk y _ [] W (asf W A ba) (λk h=>by cases h) (by simp))
  first
   | (go_region_with (go_at_call 260;refine (HT _ _ _).mono ?_;rintro e z⟨rfl,Y⟩;have E:=aa Y;clear Y))
   | fail
  have am:tks rk []=true:=rfl
  rw[am]
  clear am
  have d:=aa ((F.alloc F.size _).drew.trans (E.mono (by simp;have:=F.size;omega)))
  have a1:=aa (bl a2 d)
  obtain⟨r0,r1,r2⟩:=((cg.new w1 260 #[ι 0,ι rk,ι y]).drewN 1 |>.below E (by simp)).amw
  have bt:w1.heap.size<z.heap.size:=by have:=E.size;simp at this;omega
  have bf:B<=z.heap.size:=a6 hB d.size
  have bs:q<=1000:=by omega
  go_wp2_with fail
  go_region_law ((refine step_append_lies _ (by rfl) _ _ _ (by rfl) B 3 i0 _ 1 8 underlying36 HI a4 a5 a9 rfl (by omega) (.slice (some (δ g 0)) q q) q (bg ys) (by rfl) ((a1.alloc _).drew) (δ z.heap.size 0) 1 1 [ι y] (by rfl) (by rfl) (World.news_of_block (cs:=#[ι y]) (t:=3) (fr:=(0,0)) (heap_alloc_new z _)) (fl y) (by omega) (by unfold maxLen;omega) (by omega) (by simp;omega) (z.heap.size+1) (by simp) ?_;intro I bb w3 al Z U ad))
  all_goals
   have HG:=aa (ac6 (d.alloc d.size _).drew Z)
   have HO:=aa al
   have av:=aa (show (Value.slice (some (δ g 0)) q q).ownBlock=some I\/w.heap.size<=I by
    rcases U with h | h
    . exact .inl h
    . right;have:=d.size;omega)
   have a0:=aa ad
   clear al Z U ad
   go_wp2
   go_ret2
   refine⟨I,bb,?_,HG,?_,av,a0⟩
   . rw[aw,Q.out];rfl
   . rw[nu,aw,Q.out];exact HO
theorem a2l(kd x a O:Int)(B:Nat)(w:ω)  (hr:(py kd).1=0)(J:(kd==2)=false\/(kd=2/\x<O))(hB:B<=w.heap.size) :
 Calls prog 214 #[.slice none 0 0,.agg #[ι kd,ι x,ι a],ι O] w (SOk B (.slice none 0 0) ([(py kd).2.2]) w):=by
 obtain⟨i0,HI,a1,a2,a3⟩:=ιp Tryz.info3;have HR:=aa (λW=>abc kd W);have a0:=aa hr;have am:=aa ((ag w.heap.size w).alloc (ai _) (.cells #[ι kd,ι x,ι a] 206));clear hr;generalize (py kd).1=rc at *;generalize (py kd).2.1=rk at *;generalize (py kd).2.2=y at *;obtain rfl:rc=0:=a0.out;rcases J with J | ⟨rfl,J⟩;all_goals
  try have ba:decide (O<=x)=false:=by simp;omega
  go_enter func214,ntmps214
  go_wp2_with fail
  refine(HR _).mono ?_
  rintro e w1⟨rfl,U⟩
  have F:=aa (am.trans (U.mono (by simp)))
  clear U
  go_wp2_with fail
  have HT:=aa (λA a4 W=>af9 0 rk y _ [] W (asf W A a4) (λk h=>by cases h) (by simp))
  first
   | (go_region_with (go_at_call 260;refine (HT _ _ _).mono ?_;rintro e d⟨rfl,V⟩;have E:=aa V;clear V))
   | fail
  have ak:tks rk []=true:=rfl
  rw[ak]
  clear ak
  have z:=aa ((F.alloc F.size _).drew.trans (E.mono (by simp;have:=F.size;omega)))
  have ax:=aa (bd d B 3 1)
  obtain⟨r0,r1,r2⟩:=((cg.new w1 260 #[ι 0,ι rk,ι y]).drewN 1 |>.below E (by simp)).amw
  have bb:w1.heap.size<d.heap.size:=by have:=E.size;simp at this;omega
  have a9:B<=d.heap.size:=a6 hB z.size
  go_wp2_with fail
  go_region_law ((refine step_append_lies _ (by rfl) _ _ _ (by rfl) B 3 i0 _ 1 8 underlying36 HI a1 a2 a3 rfl (by omega) (.slice none 0 0) 0 [] (by rfl) ((ax.alloc _).drew) (δ d.heap.size 0) 1 1 [ι y] (by rfl) (by rfl) (World.news_of_block (cs:=#[ι y]) (t:=3) (fr:=(0,0)) (heap_alloc_new d _)) (fl y) (by omega) (by unfold maxLen;omega) (by omega) (by simp;omega) (d.heap.size+1) (by simp) ?_;intro I a5 w3 ad Y Q Z))
  all_goals
   have HG:=aa (ac6 (z.alloc z.size _).drew Y)
   have HO:=aa ad
   have al:=aa (show (Value.slice none 0 0).ownBlock=some I\/w.heap.size<=I by
    rcases Q with h | h
    . exact .inl h
    . right;have:=z.size;omega)
   have av:=aa Z
   clear ad Y Q Z
   go_wp2
   go_ret2
   refine⟨I,a5,?_,HG,?_,al,av⟩
   . rfl
   . exact HO
def jk(S:List Vl):List Int:=S.reverse.map Vl.kind
def pd(S:List Vl):List Int:=S.reverse.map Vl.num
theorem mu(x:Vl)(S:List Vl):jk (x::S)=jk S ++ [x.kind]:=by simp[jk]
theorem zi(x:Vl)(S:List Vl):pd (x::S)=pd S ++ [x.num]:=by simp[pd]
theorem k8(S:List Vl):(jk S).length=S.length:=by simp[jk]
theorem ae4(S:List Vl):(pd S).length=S.length:=by simp[pd]
def ayg(m:Md)(g B:Nat)(d:Int)(v:Value)(u:Vl)(z:List Vl)(w:ω)(e:Ending)(y:ω):Prop :=
 (∃c,u=.bad c/\(c=4\/c=8)/\a9z c w e y)\/(((u=.bad 9/\m.ty=false)\/∃n,u=.ok d n)/\SOk B v (jk z ++ [d]) w e y)
theorem mx{x:Vl}{S:List Vl}(h:fb (x::S)=none):(∃k n,x=.ok k n)/\fb S=none:=by
 rw[ox]at h;cases d:fb S with
 | some c=>rw[d]at h;cases h
 | none =>
  rw[d]at h
  cases x with
  | bad c=>cases h
  | ok k n=>exact ⟨⟨k,n,rfl⟩,rfl⟩
theorem qz{k n:Int}(h:sr (.ok k n)):k=1\/k=2:=Or.elim h (λh=>.inl h.1) (λh=>.inr h.1)
theorem a63{m:Md}{t:Tk}(h:¬(t.1=2/\m.lim<=t.2.1)):(t.1==2)=false\/(t.1=2/\t.2.1<m.lim):=by
 by_cases d:t.1=2
 . exact .inr ⟨d,by omega⟩
 . exact .inl (by simpa using d)
theorem am2(m:Md)(t:Tk)(B:Nat)(v:Value)(S:List Vl)(w:ω)(O:w.ownsRow B 3 1 v S.length (bg (jk S)))(Y:S.length<=1000)(y:B<=w.heap.size)(U:mh t=0) :
 Calls prog 214 #[v,.agg #[ι t.1,ι t.2.1,ι t.2.2],ι m.lim] w (ayg m 0 B (py t.1).2.2 v (og m t) S w):=by
 by_cases d:t.1=2/\m.lim<=t.2.1
 . rw[d.1];refine(ay3 v t.2.1 t.2.2 m.lim w d.2).mono λe I h=>.inl ⟨4,anf d.1 d.2,.inl rfl,h⟩
 . obtain⟨n,z⟩:=ane (m:=m) U d;have E:=a63 d;obtain⟨F,r2⟩:=a3b U;have Q:=O;rcases O.2 with ⟨rfl,V⟩ | ⟨g,J,Z,rfl,_,_,ad,_⟩
   . obtain rfl:S=[]:=bh V;exact(a2l t.1 t.2.1 t.2.2 m.lim B w F E y).mono λe I h=>.inr ⟨.inr ⟨n,z⟩,h⟩
   . by_cases W:J=S.length
     . subst W;exact(ay5 t.1 t.2.1 t.2.2 m.lim B g S.length (jk S) w Q (k8 S) Y F E y).mono λe I h=>.inr ⟨.inr ⟨n,z⟩,h⟩
     . exact(aa7 t.1 t.2.1 t.2.2 m.lim B g S.length 0 J (jk S) [] w (by rw[dz];exact Q) (k8 S) rfl (by omega) (by omega) F (λk h=>by cases h) E y rfl).mono λe I h=>.inr ⟨.inr ⟨n,z⟩,h⟩
theorem aw0(m:Md)(t:Tk)(B:Nat)(v:Value)(k n:Int)(S:List Vl)(w:ω)(F:w.ownsRow B 3 1 v (S.length+1) (bg (jk S ++ [k])))(hl:S.length<=900)(O:B<=w.heap.size)(y:mh t=1)(Q:k=1\/k=2) :
 Calls prog 214 #[v,.agg #[ι t.1,ι t.2.1,ι t.2.2],ι m.lim] w (ayg m 0 B (py t.1).2.2 v (unV t (.ok k n)) S w):=by
 have I:=F;have J:=ban y;obtain⟨U,V⟩:=awu (n:=n) y Q;have E:(t.1==2)=false:=by rcases afw y with rfl | rfl<;>rfl
 rcases F.2 with ⟨_,Z⟩ | ⟨g,z,Y,rfl,_,_,ad,_⟩
 . omega
 . cases d:tks (py t.1).2.1 [k] with
   | true=>exact (aa7 t.1 t.2.1 t.2.2 m.lim B g S.length 1 z (jk S) [k] w I (k8 S) rfl (by omega) (by omega) J (λj h=>by obtain rfl:=cf.1 h;omega) (.inl E) O d).mono λe W h=>.inr ⟨.inr (U d),h⟩
   | false=>exact (aed t.1 t.2.1 t.2.2 m.lim B g S.length 1 z (jk S) [k] w I (k8 S) rfl (by omega) (by omega) J (λj h=>by obtain rfl:=cf.1 h;omega) (.inl E) d).mono λe W h=>.inl ⟨8,V d,.inr rfl,h⟩
theorem aqu(m:Md)(t:Tk)(B:Nat)(v:Value)(d an y bn:Int)(S:List Vl)(w:ω)(Q:w.ownsRow B 3 1 v (S.length+2) (bg (jk S ++ [d,y])))(hl:S.length<=900)(W:B<=w.heap.size)(F:mh t=2)(Y:d=1\/d=2)(Z:y=1\/y=2) :
 Calls prog 214 #[v,.agg #[ι t.1,ι t.2.1,ι t.2.2],ι m.lim] w (λe E=>ayg m 0 B (py t.1).2.2 v (ag2 m.ty t (.ok d an) (.ok y bn)) S w e E/\(tks (py t.1).2.1 [d,y]=false->a9z 8 w e E)):=by
 have U:=Q;have V:=a9n F;obtain⟨s1,s2⟩:=a5u (ty:=m.ty) (an:=an) (bn:=bn) F Y Z;have J:(t.1==2)=false:=by obtain ⟨kd,rfl,h3,_⟩:=afv F;simp;omega
 have O:∀j∈ [d,y],j≠0:=λj h=>by
  rcases ij.1 h with rfl | h
  . omega
  . obtain rfl:=cf.1 h;omega
 rcases Q.2 with ⟨_,h0⟩ | ⟨g,I,ad,rfl,_,_,al,_⟩
 . omega
 . cases z:tks (py t.1).2.1 [d,y] with
   | true=>exact (aa7 t.1 t.2.1 t.2.2 m.lim B g S.length 2 I (jk S) [d,y] w U (k8 S) rfl (by omega) (by omega) V O (.inl J) W z).mono λe E h=>⟨.inr ⟨(s1 z).elim .inr (λh=>.inl ⟨h.2,h.1⟩),h⟩,λh=>by cases h⟩
   | false=>exact (aed t.1 t.2.1 t.2.2 m.lim B g S.length 2 I (jk S) [d,y] w U (k8 S) rfl (by omega) (by omega) V O (.inl J) z).mono λe E h=>⟨.inl ⟨8,s2 z,.inr rfl,h⟩,λ_=>h⟩
theorem a2o(m:Md)(t:Tk)(B:Nat)(v:Value)(S:List Vl)(w:ω)(z:w.ownsRow B 3 1 v S.length (bg (jk S)))(J:fb S=none)(O:aj0 S)(Y:S.length<=900)(I:B<=w.heap.size)(h0:0<=mh t)(d:mh t<=S.length) :
 Calls prog 214 #[v,.agg #[ι t.1,ι t.2.1,ι t.2.2],ι m.lim] w (λe E=>∃u F,aab m t S=u::F/\fb F=none/\ayg m 0 B (py t.1).2.2 v u F w e E):=by
 rcases ot t with c | c | c | c
 . omega
 . exact(am2 m t B v S w z (by omega) I c).mono λe E h=>⟨_,_,aep _ c,J,h⟩
 . rcases S with _ | ⟨x,S⟩
   . rw[c]at d;simp at d
   . obtain⟨⟨k,n,rfl⟩,Z⟩:=mx J;rw[mu]at z;rw[bm]at Y;exact(aw0 m t B v k n S w z (by omega) I c (qz (O (.ok k n) (by simp)))).mono λe E h=>⟨_,_,aeo _ _ c,Z,h⟩
 . rcases S with _ | ⟨x,_ | ⟨y,S⟩⟩
   . rw[c]at d;simp at d
   . rw[c]at d;simp at d
   . obtain⟨⟨V,W,rfl⟩,ad⟩:=mx J;obtain⟨⟨Q,U,rfl⟩,al⟩:=mx ad;rw[mu,mu,j4]at z;rw[bm,bm]at Y;exact(aqu m t B v Q U V W S w z (by omega) I c (qz (O (.ok Q U) (by simp))) (qz (O (.ok V W) (by simp)))).mono λe E h=>⟨_,_,aen _ _ _ c,al,h.1⟩
def ans(m:Md)(ts:List Tk):Vl:=if ae6 ts=true then (vs m ts ts.length).headD (.bad 0) else .bad 2
def a6b(a:Vl)(w:ω)(e:Ending)(d:ω):Prop :=
 κ w d/\match a with
  | .ok k _=>e=.returned (.tuple #[ι k,.nilIface])
  | .bad c=>e=.returned (.tuple #[ι 0,.iface 93 (ι c)])
theorem aof(ts:List Tk):∀k,td ts k->(stk ts k).length<=k
 | 0,_=>ai _
 | k+1,h=>by have d:=ahf h;have y:=aof ts k (h.mono (by omega));have z:=(h k (by omega)).1;omega
theorem aik(p:Value)(w:ω):(binOp .neq 30 (.iface 93 p) .nilIface).run prog w=.ok (.bool true) w:=by kernel_rfl
theorem ajv(m:Md){ts:List Tk}(y:ae6 ts=true):ts.length<=100/\td ts ts.length/\vs m ts ts.length=[ans m ts]:=by obtain ⟨z,d,x,F⟩:=abi y;obtain⟨v,E⟩:=bam m d (by rw[F];rfl);refine⟨z,d,?_⟩;unfold ans;rw[ao y,E];rfl
theorem a1z(v:Value)(ts:List Tk)(z:Int)(w:ω)(hv:lw w v ts)(hn:∀t∈ts,t.2.1<=9223372036854775807)(Y:ae6 ts=true):Calls prog 158 #[v,ι z] w (a6b (ans ⟨true,[],z⟩ ts) w):=by
 have HM:=aa (ajm v ts w hv (by have:=(abi Y).1;omega));obtain⟨hl,hV,bt⟩:=ajv ⟨true,[],z⟩ Y;have bk:(⟨true,[],z⟩:Md).lim=z/\(⟨true,[],z⟩:Md).ty=true:=⟨rfl,rfl⟩;have b4:=aa (λi hi cb=>afr ⟨true,[],z⟩ hn (λx hx=>by cases hx) i hi cb);generalize (⟨true,[],z⟩:Md)=d at *;have a2:=aa bk;have b6:=aa Y;have I:=aa hV;have a4:=aa bt;have cv:=l3;have co:=λp W=>aik p W;obtain⟨A,cc,rfl,hc,bb⟩:=hv;have HE:=aa bb;clear bb Y hn hV bt bk;go_enter func158,ntmps158;go_wp2_with fail;refine HM.mono ?_;rintro e w0⟨rfl,a9⟩;rw[b6.out];have b2:=aa a9;clear a9;go_wp2_with fail;go_loopw [6,17] (λv i wr=>∃k:Nat,k<=ts.length/\i=ι (k:Int)/\Hid (fb (vs d ts k)=none)/\κ w wr/\Hid (wr.ownsRow w.heap.size 3 1 v (vs d ts k).length (bg (jk (vs d ts k))))) (λ_ i _=>ts.length-(intOf i).toNat)
 case atStart=>exact ⟨0,ar _,rfl,aa rfl,b2,aa (bd _ _ _ _)⟩
 case round =>
  obtain⟨k,O,rfl,HF,E,ad⟩:=hrel;obtain⟨y,rfl⟩:∃y:ω,y=wr:=⟨_,rfl⟩;by_cases V:k<ts.length
  . obtain⟨b,o,rfl,am,c0,c1,c2⟩:=HE.out k ts[k] (ae V);have c0:y.cell? (δ b (o+k*3))=_:=(E.cell (p:=(δ b _)) am).trans c0;have c1:y.cell? (δ b (o+k*3+1))=_:=(E.cell (p:=(δ b _)) am).trans c1;have c2:y.cell? (δ b (o+k*3+2))=_:=(E.cell (p:=(δ b _)) am).trans c2;have F:ts.getD k (0,0,0)=ts[k]:=(by simp[List.getD,ae V]);obtain⟨ax,Z⟩:=I.out k V;have a0:=acb d ts k O (I.mono O);have av:=aa3 d V;have ca:(vs d ts k).length<=100:=(by rw[a0];have:=aof ts k (I.mono O);omega);rw[F]at ax Z av;rw[<-a0]at Z;generalize ts[k]=t at *;have ak:=aa av;have a1:=aa ((ag y.heap.size y).alloc (ai _) (.cells #[ι t.1,ι t.2.1,ι t.2.2] 206));have a3:=aa (a2o d t w.heap.size _ (vs d ts k) (y.alloc (.cells #[ι t.1,ι t.2.1,ι t.2.2] 206)) (bl ad a1) HF (b4 k O (I.mono O)) (by omega) (by simp;have:=E.size;omega) ax Z);rw[a2.out.1]at a3;have Q:=aa (E.trans (a1.mono E.size));have b5:=aa (λg F=>(ad.lt g F).1);clear F av a0 ca Z ax;go_wp2_with fail;refine a3.mono ?_;rintro e w1⟨u,S',hu,U,hP⟩;rcases hP with ⟨c,rfl,b9,rfl,ba⟩ | ⟨b0,g,b7,rfl,bf,bs,b8,cl⟩
    . have HA:=aa (ag3 d I (by omega) a4 (ak.trans hu) U);have HX:=aa (Q.trans (ba.mono Q.size));clear hu U ba b9;go_wp2;go_ret2;rw[HA.out];exact⟨HX,rfl⟩
    . have HU:Hid (∃n,u=.ok (py t.1).2.2 n):=aa (b0.elim (λh=>by rw[a2.out.2]at h;cases h.2) id);have HX:=aa (Q.grown bf Q.size (λg F=>b5 g F));have HO:=aa bs;have a5:=aa hu;have b3:=aa U;clear hu U bf bs b8 b0;go_wp2;go_roundw
      case rel =>
       obtain⟨n,rfl⟩:=HU.out;refine⟨k+1,by omega,by go_num,aa ?_,HX,aa ?_⟩
       . rw[ak.out,a5.out,ox,b3.out];rfl
       . rw[ak.out,a5.out,mu,bm,k8];have:=HO.out;rw[aw,k8]at this;exact this
      case measure=>simp[intOf];omega
  . obtain rfl:k=ts.length:=(by omega);have hF:=HF.out;have J:=ad.out;rw[a4.out]at hF J;obtain⟨⟨kk,nn,al⟩,_⟩:=mx hF;rw[al]at J;obtain⟨g,b7,rfl⟩:=ky J;have ci:y.cell? (δ g 0)=some (ι kk):=m6 J 0 _ (by simp[bg,jk,Vl.kind]);have b1:=aa al;clear hF J al;go_wp2;go_ret2;rw[b1.out];exact⟨E,rfl⟩
def ab0(L:List Int)(w:ω)(e:Ending)(d:ω):Prop:=κ w d/\∃v,e=.returned v/\d.ownsRow w.heap.size 3 1 v L.length (bg L)
theorem g8(w:ω)(s:Value)(t:TypeId)(g:Nat)(y:w.heap.size=g):∀j u,[s][j]?=some u->(w.alloc (.cells #[s] t)).cell? (((δ g 0):Addr).add j)=some u:=by
 subst y;intro j u d;cases j with
 | zero =>simp at d;subst d;exact(cg.new w t #[s]).cell 0
 | succ j=>simp at d
theorem fp{w:ω}{B B':Nat}{e:TypeId}{s n:Nat}{v:Value}{xs:List Value}(h:w.ownsRow B e s v n xs)(E:B'<=B):w.ownsRow B' e s v n xs:=by
 refine⟨h.1,?_⟩;rcases h.2 with d | ⟨a,b,c,y,d,z⟩
 . exact .inl d
 . exact .inr ⟨a,b,c,y,a6 E d,z⟩
theorem axm{S:List St}{s:Int}{k:Nat}(h:¬(aq S (k:Int)).par=s\/ct (aq S (k:Int)).kind=true):vw S s k=false:=by
 unfold vw;rcases h with h | h
 . simp[h]
 . rw[h];simp
theorem ar6{S:List St}{s:Int}{k:Nat}(d:(aq S (k:Int)).par=s)(h:ct (aq S (k:Int)).kind=false):vw S s k=true:=by unfold vw;rw[h];simp[d]
theorem axl{S:List St}{s:Int}{k:Nat}(h:vw S s k=false):sf S s (k+1)=sf S s k:=by rw[ak7,ah (by rw[h];simp),dz]
theorem ar3{S:List St}{s:Int}{k:Nat}(h:vw S s k=true):sf S s (k+1)=sf S s k ++ [(k:Int)]:=by rw[ak7,ao h]
theorem dp(L:List Int)(x:Int):bg (L ++ [x])=bg L ++ [ι x]:=by simp[bg]
theorem ar5(vr s:Int)(vs vt:Value)(C:Ch)(w:ω)(Q:d8 w vs vt C)(hl:C.ab.length<=1000) :
 Calls prog 89 #[.agg #[ι vr,vs,vt],ι s] w (ab0 (lj C.ab s) w):=by
 obtain⟨i0,hi,av,ax,a0⟩:=info_parts Tryz.info3;have HI:=aa hi;have a9:=aa av;have ba:=aa ax;have bb:=aa a0;clear hi av ax a0;have HC:=aa Q;obtain⟨A,bf,rfl,b3⟩:=br.slice Q.1;have a3:=aa (λn=>aam C.ab s n);clear Q;go_enter func89,ntmps89;go_wp2_with fail;go_loopw [5,11] (λv i wr=>∃(k:Nat),k<=C.ab.length/\i=ι (k:Int)/\κ (w.alloc (bu vr (.slice A C.ab.length bf) vt)) wr/\Hid (wr.ownsRow (w.heap.size+1) 3 1 v (sf C.ab s k).length (bg (sf C.ab s k)))) (λ_ i _=>C.ab.length-(intOf i).toNat)
 case atStart=>exact ⟨0,ar _,rfl,ag _ _,aa (bd _ _ _ _)⟩
 case round =>
  obtain⟨k,hk,rfl,d,U⟩:=hrel;obtain⟨E,rfl⟩:∃E:ω,E=wr:=⟨_,rfl⟩;by_cases bs:k<C.ab.length
  . obtain⟨b,o,b1,vi,ve,vx,b0,_,bk,am,ak⟩:=HC.st bs;injection b0 with e1 e2 e3;subst e1;obtain⟨c0,c1,c2,c3,c4⟩:=am.below (aj d) bk;obtain⟨iA,a1,W,Y,xA,a2,rfl,rfl,rfl⟩:=ak.slices;have V:=aa (λh=>axl (axm (S:=C.ab) (s:=s) (k:=k) h));have a5:=aa (λh1 h2=>ar3 (ar6 (S:=C.ab) (s:=s) (k:=k) h1 h2));generalize (aq C.ab (k:Int)).kind=K at *;generalize (aq C.ab (k:Int)).par=P at *;generalize (aq C.ab (k:Int)).ip.length=il at *;generalize (aq C.ab (k:Int)).kv.length=Z at *;generalize (aq C.ab (k:Int)).me.length=xl at *;have F:=aa (d.alloc d.size (qc K P (.slice iA il a1) (.slice W Z Y) (.slice xA xl a2)));have I:=aa (bl U.out (ap E (qc K P (.slice iA il a1) (.slice W Z Y) (.slice xA xl a2))));have b2:w.heap.size+1<=E.heap.size:=(by have:=d.size;simpa using this);clear am ak e2 e3 d U;by_cases y:P=s
    . have bt:(P==s)=true:=(by simpa using y);have O:=aa y;clear y;cases J:ct K with
      | true =>
       have z:=aa J;clear J;go_wp2_with (go_at_call 153;refine (ei _ _).mono ?_;rintro e w'⟨rfl,rfl⟩;rw[z.out]);go_roundw
       case rel=>exact ⟨k+1,by omega,by go_num,F,aa (by rw[V.out (.inr z.out)];exact I)⟩
       case measure=>simp[intOf];omega
      | false =>
       have z:=aa J;have b4:=a3.out k;clear J;go_wp2_with fail;refine(ei _ _).mono ?_;rintro e w'⟨rfl,rfl⟩;rw[z.out];go_wp2_with (at_builtin;refine wpList_append_own_at _ rfl _ _ 36 rfl (w.heap.size+1) 3 i0 (ι 0) 1 8 underlying36 HI a9 ba bb rfl (by decide) _ _ _ rfl (I.alloc _) (δ (E.heap.size+1) 0) 1 1 [ι (k:Int)] rfl rfl ?c1 ?c2 ?c3 ?c4 ?c5 ?_)
       case c1=>exact g8 _ _ _ _ (by simp)
       case c2=>exact fl _
       case c3=>unfold maxLen;omega
       case c4=>omega
       case c5=>simp;omega
       intro v' w2 al ad _ _;have HG:=aa (ck (F.alloc F.size _) ad (by simp;omega) (λg hg=>by have:=(I.lt g hg).1;simpa using this));have a4:=aa al;clear al ad;go_wp2;go_roundw
       case rel=>exact ⟨k+1,by omega,by go_num,HG,aa (by rw[a5.out O.out z.out,dp];simpa using a4.out)⟩
       case measure=>simp[intOf];omega
    . have bt:(P==s)=false:=(by simpa using y);have O:=aa y;clear y;go_wp2;go_roundw
      case rel=>exact ⟨k+1,by omega,by go_num,F,aa (by rw[V.out (.inl O.out)];exact I)⟩
      case measure=>simp[intOf];omega
  . obtain rfl:k=C.ab.length:=(by omega);go_wp2;go_ret;exact⟨aj d,_,rfl,fp U.out (by omega)⟩
theorem a4o{K:Int}(d:¬K=5)(y:¬K=6):ct K=false:=by simp[ct,d,y]
theorem am8(vr s:Int)(vs vt:Value)(C:Ch)(w:ω)(V:d8 w vs vt C)(hl:C.ab.length<=1000) :
 Calls prog 167 #[.agg #[ι vr,vs,vt],ι s] w (ab0 (lj C.ab s) w):=by
 obtain⟨i0,Z,al,am,av⟩:=info_parts Tryz.info3;have HI:=aa Z;have a2:=aa al;have a3:=aa am;have a4:=aa av;clear Z al am av;have HC:=aa V;obtain⟨A,a5,rfl,b2⟩:=br.slice V.1;have ax:=aa (λn=>aam C.ab s n);clear V;go_enter func167,ntmps167;go_wp2_with fail;go_loopw [5,6] (λv i wr=>∃(k:Nat),k<=C.ab.length/\i=ι (k:Int)/\κ (w.alloc (bu vr (.slice A C.ab.length a5) vt)) wr/\Hid (wr.ownsRow (w.heap.size+1) 3 1 v (sf C.ab s k).length (bg (sf C.ab s k)))) (λ_ i _=>C.ab.length-(intOf i).toNat)
 case atStart=>exact ⟨0,ar _,rfl,ag _ _,aa (bd _ _ _ _)⟩
 case round =>
  obtain⟨k,hk,rfl,z,W⟩:=hrel;obtain⟨O,rfl⟩:∃O:ω,O=wr:=⟨_,rfl⟩;obtain⟨x0,x1,x2⟩:=bc z;by_cases bk:k<C.ab.length
  . obtain⟨b,o,b0,vi,ve,vx,bt,_,bb,ak,bf⟩:=HC.st bk;injection bt with e1 e2 e3;subst e1;obtain⟨c0,c1,c2,c3,c4⟩:=ak.below (aj z) bb;have Q:=aa (λh=>axl (axm (S:=C.ab) (s:=s) (k:=k) h));have a1:=aa (λh1 h2=>ar3 (ar6 (S:=C.ab) (s:=s) (k:=k) h1 h2));generalize (aq C.ab (k:Int)).kind=K at *;generalize (aq C.ab (k:Int)).par=P at *;have F:=aa z;have J:=aa W.out;have b1:w.heap.size+1<=O.heap.size:=(by have:=z.size;simpa using this);clear ak bf e2 e3 z W;by_cases E:P=s
    . have bs:(P==s)=true:=(by simpa using E);have U:=aa E;clear E;by_cases d:K=5
      . have a9:(K != 5)=false:=(by simp[d]);have I:Hid (ct K=true):=aa (by rw[d];rfl);clear d;go_wp2;go_roundw
        case rel=>exact ⟨k+1,by omega,by go_num,F,aa (by rw[Q.out (.inr I.out)];exact J)⟩
        case measure=>simp[intOf];omega
      . have a9:(K != 5)=true:=(by simp[d]);by_cases y:K=6
        . have ba:(K != 6)=false:=(by simp[y]);have I:Hid (ct K=true):=aa (by rw[y];rfl);clear d y;go_wp2;go_roundw
          case rel=>exact ⟨k+1,by omega,by go_num,F,aa (by rw[Q.out (.inr I.out)];exact J)⟩
          case measure=>simp[intOf];omega
        . have ba:(K != 6)=true:=(by simp[y]);have I:Hid (ct K=false):=aa (a4o d y);have b3:=ax.out k;clear d y;go_wp2_with (at_builtin;refine wpList_append_own_at _ rfl _ _ 36 rfl (w.heap.size+1) 3 i0 (ι 0) 1 8 underlying36 HI a2 a3 a4 rfl (by decide) _ _ _ rfl (J.alloc _) (δ O.heap.size 0) 1 1 [ι (k:Int)] rfl rfl ?c1 ?c2 ?c3 ?c4 ?c5 ?_)
          case c1=>exact g8 _ _ _ _ rfl
          case c2=>exact fl _
          case c3=>unfold maxLen;omega
          case c4=>omega
          case c5=>simp;omega
          intro v' w2 ad Y _ _;have HG:=aa (ck (F.alloc F.size _) Y (by simp;omega) (λg hg=>by have:=(J.lt g hg).1;simpa using this));have a0:=aa ad;clear ad Y;go_wp2;go_roundw
          case rel=>exact ⟨k+1,by omega,by go_num,HG,aa (by rw[a1.out U.out I.out,dp];simpa using a0.out)⟩
          case measure=>simp[intOf];omega
    . have bs:(P==s)=false:=(by simpa using E);have U:=aa E;clear E;go_wp2;go_roundw
      case rel=>exact ⟨k+1,by omega,by go_num,F,aa (by rw[Q.out (.inl U.out)];exact J)⟩
      case measure=>simp[intOf];omega
  . obtain rfl:k=C.ab.length:=(by omega);go_wp2;go_ret;exact⟨aj z,_,rfl,fp W.out (by omega)⟩
theorem dc{w:ω}{B:Nat}{v:Value}{L:List Int}(h:w.ownsRow B 3 1 v L.length (bg L)):dd w v L:=by
 have d:=h;rcases h.2 with ⟨E,z⟩ | ⟨g,y,J,rfl,O,Q,F,_⟩
 . obtain rfl:L=[]:=bh z;rw[E];exact br.nil w
 . refine⟨_,y,rfl,F,λi x I=>⟨g,0,rfl,(d.lt g rfl).2,?_⟩⟩;show w.cell? (δ g (0+i*1))=_;rw[j2,bq];exact m6 d i _ (by simp[bg,I])
theorem apy{S:List St}{a b:Int}(h:a<1\/(S.length:Int)<=a\/b<0):jc S a b=false:=by rw[Bool.eq_false_iff];intro y;obtain⟨z,E,d⟩:=lm y;unfold c6 at d;simp only[bj,bi]at d;omega
theorem bbv{S:List St}{k:Nat}(y:k<S.length):lu S (k:Int)=if 0<=(aq S (k:Int)).par/\(aq S (k:Int)).par<(k:Int) then (aq S (k:Int)).par else -1:=by
 unfold lu;rw[ll y];by_cases h:0<=(aq S (k:Int)).par/\(aq S (k:Int)).par<(k:Int)
 . rw[ao h,ao ⟨rfl,mc.2 ⟨h.1,by omega⟩⟩]
 . rw[ah h,ah];intro d;have:=mc.1 d.2;omega
theorem ze(Z b:Int)(vs vt:Value)(C:Ch)(hl:dw C.ab.length):∀(n:Nat)(a:Int)(w:ω),a.toNat<=n->d8 w vs vt C->
 Calls prog 175 #[.agg #[ι Z,vs,vt],ι a,ι b] w λe w'=>e=.returned (.bool (jc C.ab a b))/\κ w w':=by
 intro n;induction n with
 | zero =>
  intro a w J F;have E:=aa (ap w (bu Z vs vt));have Q:a<1:=by omega
  have d:=aa (apy (S:=C.ab) (b:=b) (.inl Q));clear F J;go_enter func175,ntmps175;go_wp2;go_ret;exact⟨az d.symm,E⟩
 | succ n O =>
  intro a w J F;have E:=aa (ap w (bu Z vs vt));have hs:=hl;unfold dw at hs;obtain⟨A,bf,rfl,b0⟩:=br.slice F.1;by_cases Q:a<1
  . have d:=aa (apy (S:=C.ab) (b:=b) (.inl Q));clear F J O;go_enter func175,ntmps175;go_wp2;go_ret;exact⟨az d.symm,E⟩
  . obtain⟨k,rfl⟩:∃k:Nat,a=(k:Int):=⟨a.toNat,by omega⟩;have ax:¬((k:Int)<1):=Q;have bs:decide ((k:Int)<1)=false:=(by simpa using ax);by_cases V:C.ab.length<=k
    . have d:=aa (apy (S:=C.ab) (a:=(k:Int)) (b:=b) (.inr (.inl (by omega))));have a2:decide ((C.ab.length:Int)<=(k:Int))=true:=(by simpa using V);have a3:decide (C.ab.length<=k)=true:=(by simpa using V);clear F J O;go_enter func175,ntmps175;go_wp2;go_ret;exact⟨az d.symm,E⟩
    . have a2:decide ((C.ab.length:Int)<=(k:Int))=false:=(by simp;omega);have a3:decide (C.ab.length<=k)=false:=(by simpa using V);have ak:k<C.ab.length:=(by omega);by_cases U:b<0
      . have d:=aa (apy (S:=C.ab) (a:=(k:Int)) (b:=b) (.inr (.inr U)));have a0:decide (b<0)=true:=(by simpa using U);clear F J O;go_enter func175,ntmps175;go_wp2;go_ret;exact⟨az d.symm,E⟩
      . have a0:decide (b<0)=false:=(by simpa using U);obtain⟨B,o,bk,vi,ve,vx,ba,_,bt,⟨c0,c1,c2,c3,c4⟩,a1⟩:=F.st ak;injection ba with e1 e2 e3;subst e1;have z:=bbv ak;have y:=ah1 C.ab (k:Int) b;generalize (aq C.ab (k:Int)).par=P at *;have IH:=aa (λW(h:P.toNat<=n) hW=>O P W h (F.below hW));clear a1 e2 e3 O F;by_cases Y:P<0
        . have a4:decide (P<0)=true:=(by simpa using Y);have d:Hid (jc C.ab (k:Int) b=false):=aa (by rw[ah (by omega)]at z;rw[y,z,ao (by decide)]);clear z y;go_enter func175,ntmps175;go_wp2;go_ret;exact⟨az d.symm,E⟩
        . have a4:decide (P<0)=false:=(by simpa using Y);by_cases al:(k:Int)<=P
          . have a9:decide ((k:Int)<=P)=true:=(by simpa using al);have d:Hid (jc C.ab (k:Int) b=false):=aa (by rw[ah (by omega)]at z;rw[y,z,ao (by decide)]);clear z y;go_enter func175,ntmps175;go_wp2;go_ret;exact⟨az d.symm,E⟩
          . have a9:decide ((k:Int)<=P)=false:=(by simpa using al);rw[ao (by omega)]at z;rw[z,ah Y]at y;by_cases I:P=b
            . have a5:(P==b)=true:=(by simpa using I);rw[ao I]at y;have d:=aa y;have bb:=aa I;clear z y I;go_enter func175,ntmps175;go_wp2;go_ret;exact⟨az d.symm,E⟩
            . have a5:(P==b)=false:=(by simpa using I);rw[ah I]at y;have d:=aa y;have av:P.toNat<=n:=(by omega);clear z y I;go_enter func175,ntmps175;go_wp2_with fail;refine(IH.out _ av E).mono ?_;rintro e w1⟨rfl,ad⟩;have am:=aa (aj ad);clear ad;go_wp2;go_ret;exact⟨az d.symm,am⟩
theorem Tryz.a1k:(Tryz.prog.info? 92).map (λi=>(i.zero,i.size,i.bytes))=some (some (.agg #[ι 0,ι 0,ι 0,.string ⟨#[]⟩]),4,40):=by kernel_rfl
theorem Tryz.a6y:(Tryz.prog.info? 59).map (λi=>(i.zero,i.size,i.bytes))=some (some (.agg #[ι 0,ι 0,.slice none 0 0,.slice none 0 0,.slice none 0 0]),5,88):=by kernel_rfl
theorem Tryz.a6x:(Tryz.prog.info? 62).map (λi=>(i.zero,i.size,i.bytes))=some (some (.agg #[ι 0,ι 0,.string ⟨#[]⟩,.slice none 0 0,.bool false,.slice none 0 0]),6,88):=by kernel_rfl
def ni(w:ω)(n:Nat)(v:Value)(d:Nat)(y:List Value):Prop :=
 y.length=d*n/\((∃c,v=.slice none 0 c/\d=0)\/∃z E,v=.slice (some z) d E/\(∀j u,y[j]?=some u->w.cell? (z.add j)=some u)/\∀u∈y,u.oneCell'=true)
def yz(e n y:Nat)(z:List Value)(w:ω)(E:Ending)(d:ω):Prop:=κ w d/\∃v,E=.returned v/\d.ownsRow w.heap.size e n v y z
theorem aix(v:Value)(y:Nat)(z:List Value)(w:ω)(h:ni w 1 v y z)(hl:y<=1000):Calls prog 46 #[v] w (yz 3 1 y z w):=by
 obtain⟨d,⟨c,rfl,rfl⟩ | ⟨ad,av,rfl,E,J⟩⟩:=h
 . obtain rfl:z=[]:=bh (by simpa using d);have HB:=aa (ag w.heap.size w);clear d;go_enter func46,ntmps46;go_wp2;go_ret;exact⟨ag _ _,_,rfl,bd _ _ _ _⟩
 . obtain⟨i0,I,Q,U,V⟩:=info_parts Tryz.info3;have Z:=aa I;have ak:=aa Q;have al:=aa U;have am:=aa V;have HN:=aa d;have W:=aa E;have HO:=aa J;clear I Q U V d E J;go_enter func46,ntmps46;go_wp2_with (at_builtin;refine wpList_append_own_at _ rfl _ _ 36 rfl w.heap.size 3 i0 (ι 0) 1 8 underlying36 Z ak al am rfl (by decide) _ 0 [] rfl (bd _ _ _ _) ad y av z rfl HN ?c1 HO ?c3 ?c4 ?c5 ?_)
   case c1=>exact W
   case c3=>unfold maxLen;omega
   case c4=>omega
   case c5=>exact ai _
   intro v' w2 O F _ _;have Y:=aa (ck (ag w.heap.size w) F (ai _) (λg hg=>by cases hg));have HW:=aa O;clear O F;go_wp2;go_ret;exact⟨Y,_,rfl,by simpa using HW.out⟩
theorem adc(v:Value)(y:Nat)(z:List Value)(w:ω)(h:ni w 4 v y z)(hl:y<=1000):Calls prog 47 #[v] w (yz 92 4 y z w):=by
 obtain⟨d,⟨c,rfl,rfl⟩ | ⟨ad,av,rfl,E,J⟩⟩:=h
 . obtain rfl:z=[]:=bh (by simpa using d);have HB:=aa (ag w.heap.size w);clear d;go_enter func47,ntmps47;go_wp2;go_ret;exact⟨ag _ _,_,rfl,bd _ _ _ _⟩
 . obtain⟨i0,I,Q,U,V⟩:=info_parts Tryz.a1k;have Z:=aa I;have ak:=aa Q;have al:=aa U;have am:=aa V;have HN:=aa d;have W:=aa E;have HO:=aa J;clear I Q U V d E J;go_enter func47,ntmps47;go_wp2_with (at_builtin;refine wpList_append_own_at _ rfl _ _ 57 rfl w.heap.size 92 i0 (.agg #[ι 0,ι 0,ι 0,.string ⟨#[]⟩]) 4 40 underlying57 Z ak al am rfl (by decide) _ 0 [] rfl (bd _ _ _ _) ad y av z rfl HN ?c1 HO ?c3 ?c4 ?c5 ?_)
   case c1=>exact W
   case c3=>unfold maxLen;omega
   case c4=>omega
   case c5=>exact ai _
   intro v' w2 O F _ _;have Y:=aa (ck (ag w.heap.size w) F (ai _) (λg hg=>by cases hg));have HW:=aa O;clear O F;go_wp2;go_ret;exact⟨Y,_,rfl,by simpa using HW.out⟩
theorem av8(v:Value)(y:Nat)(z:List Value)(w:ω)(h:ni w 5 v y z)(hl:y<=1000):Calls prog 44 #[v] w (yz 59 5 y z w):=by
 obtain⟨d,⟨c,rfl,rfl⟩ | ⟨ad,av,rfl,E,J⟩⟩:=h
 . obtain rfl:z=[]:=bh (by simpa using d);have HB:=aa (ag w.heap.size w);clear d;go_enter func44,ntmps44;go_wp2;go_ret;exact⟨ag _ _,_,rfl,bd _ _ _ _⟩
 . obtain⟨i0,I,Q,U,V⟩:=info_parts Tryz.a6y;have Z:=aa I;have ak:=aa Q;have al:=aa U;have am:=aa V;have HN:=aa d;have W:=aa E;have HO:=aa J;clear I Q U V d E J;go_enter func44,ntmps44;go_wp2_with (at_builtin;refine wpList_append_own_at _ rfl _ _ 22 rfl w.heap.size 59 i0 (.agg #[ι 0,ι 0,.slice none 0 0,.slice none 0 0,.slice none 0 0]) 5 88 underlying22 Z ak al am rfl (by decide) _ 0 [] rfl (bd _ _ _ _) ad y av z rfl HN ?c1 HO ?c3 ?c4 ?c5 ?_)
   case c1=>exact W
   case c3=>unfold maxLen;omega
   case c4=>omega
   case c5=>exact ai _
   intro v' w2 O F _ _;have Y:=aa (ck (ag w.heap.size w) F (ai _) (λg hg=>by cases hg));have HW:=aa O;clear O F;go_wp2;go_ret;exact⟨Y,_,rfl,by simpa using HW.out⟩
theorem av7(v:Value)(y:Nat)(z:List Value)(w:ω)(h:ni w 6 v y z)(hl:y<=1000):Calls prog 45 #[v] w (yz 62 6 y z w):=by
 obtain⟨d,⟨c,rfl,rfl⟩ | ⟨ad,av,rfl,E,J⟩⟩:=h
 . obtain rfl:z=[]:=bh (by simpa using d);have HB:=aa (ag w.heap.size w);clear d;go_enter func45,ntmps45;go_wp2;go_ret;exact⟨ag _ _,_,rfl,bd _ _ _ _⟩
 . obtain⟨i0,I,Q,U,V⟩:=info_parts Tryz.a6x;have Z:=aa I;have ak:=aa Q;have al:=aa U;have am:=aa V;have HN:=aa d;have W:=aa E;have HO:=aa J;clear I Q U V d E J;go_enter func45,ntmps45;go_wp2_with (at_builtin;refine wpList_append_own_at _ rfl _ _ 23 rfl w.heap.size 62 i0 (.agg #[ι 0,ι 0,.string ⟨#[]⟩,.slice none 0 0,.bool false,.slice none 0 0]) 6 88 underlying23 Z ak al am rfl (by decide) _ 0 [] rfl (bd _ _ _ _) ad y av z rfl HN ?c1 HO ?c3 ?c4 ?c5 ?_)
   case c1=>exact W
   case c3=>unfold maxLen;omega
   case c4=>omega
   case c5=>exact ai _
   intro v' w2 O F _ _;have Y:=aa (ck (ag w.heap.size w) F (ai _) (λg hg=>by cases hg));have HW:=aa O;clear O F;go_wp2;go_ret;exact⟨Y,_,rfl,by simpa using HW.out⟩
abbrev zt:=St×Value×Value×Value
abbrev zr:=Tr×Value×Value
def qh(a:Ac):List Value:=[ι a.kind,ι a.n,ι a.m,.string a.expr]
def kl(r:zt):List Value:=[ι r.1.kind,ι r.1.par,r.2.1,r.2.2.1,r.2.2.2]
def jx(r:zr):List Value:=[ι r.1.src,ι r.1.ev,.string r.1.guard,r.2.1,.bool r.1.inner,r.2.2]
theorem ag6(a:Ac):(qh a).length=4:=rfl
theorem o9(a:zt):(kl a).length=5:=rfl
theorem sc(a:zr):(jx a).length=6:=rfl
theorem ac8{ρ:Type}{cells:ρ->List Value}{n:Nat}(d:∀r,(cells r).length=n):∀xs:List ρ,(xs.flatMap cells).length=xs.length*n
 | []=>by simp
 | x::xs=>by rw[o3,aw,d,ac8 d xs,bm,od];omega
theorem aff{ρ:Type}{cells:ρ->List Value}{n:Nat}(z:∀r,(cells r).length=n):∀(xs:List ρ)(i:Nat)(x:ρ)(j:Nat)(u:Value),xs[i]?=some x->(cells x)[j]?=some u->(xs.flatMap cells)[i*n+j]?=some u
 | [],i,x,j,u,h,_=>by simp at h
 | y::E,0,x,j,u,h,d=>by simp at h;subst h;have F:=(bo.1 d).1;rw[o3,Nat.zero_mul,j2,kg F];exact d
 | y::E,i+1,x,j,u,h,d=>by simp at h;rw[o3,ga (by rw[z,od];omega),z,show(i+1)*n+j-n=i*n+j by rw[od];omega];exact aff z E i x j u h d
theorem ah0{ρ:Type}{cells:ρ->List Value}{n:Nat}(z:∀r,(cells r).length=n):∀(xs:List ρ)(k:Nat)(u:Value),(xs.flatMap cells)[k]?=some u->∃i j x,k=i*n+j/\xs[i]?=some x/\(cells x)[j]?=some u
 | [],k,u,h=>by simp at h
 | y::J,k,u,h=>by
  rw[o3]at h;by_cases d:k<(cells y).length
  . rw[kg d]at h;exact⟨0,k,y,by omega,rfl,h⟩
  . rw[ga (by omega)]at h;obtain⟨i,j,x,E,F,I⟩:=ah0 z J _ u h;refine⟨i+1,j,x,?_,by simpa using F,I⟩;rw[z]at E d;rw[od];omega
theorem aah{α:Type}{n:Nat}{P:ω->Nat->Nat->α->Prop}{cells:α->List Value}{w:ω}{v:Value}{xs:List α}(I:∀r,(cells r).length=n)(Y:0<n)(h:br n P w v xs)
 (O:∀b o x,P w b o x->∀j u,(cells x)[j]?=some u->w.cell? (δ b (o+j))=some u)(J:∀x∈xs,∀u∈cells x,u.oneCell'=true):ni w n v xs.length (xs.flatMap cells):=by
 refine⟨ac8 I xs,?_⟩;obtain⟨A,E,rfl,W,F⟩:=h;have U:∀u∈xs.flatMap cells,u.oneCell'=true:=by intro u y;obtain⟨x,z,y⟩:=List.mem_flatMap.1 y;exact J x z u y
 cases A with
 | none =>
  cases xs with
  | nil=>exact .inl ⟨E,rfl,rfl⟩
  | cons x xs=>obtain ⟨b,o,d,_⟩:=F 0 x rfl;cases d
 | some a =>refine .inr ⟨a,E,rfl,λk u y=>?_,U⟩;obtain⟨i,j,x,rfl,z,Q⟩:=ah0 I xs k u y;obtain⟨b,o,d,_,V⟩:=F i x z;injection d with d;subst d;rw[yu];have:=O b _ x V j u Q;rw[<-this];congr 2;omega
theorem axe{v:Value}{u:Value}(h:v.oneCell'=true)(d:u∈ [v]):u.oneCell'=true:=by rw[cf.1 d];exact h
abbrev sg:Int->List Value:=λx=>[ι x]
theorem adw:∀L:List Int,L.flatMap sg=bg L
 | []=>rfl
 | x::L=>by rw[o3,adw L];rfl
theorem l9{w:ω}{v:Value}{L:List Int}(h:dd w v L):ni w 1 v L.length (bg L):=by
 have:=aah (cells:=sg) (λ_=>rfl) (by decide) h (λb o x y j u d=>by
  cases j with
  | zero=>simp at d;subst d;exact y
  | succ j=>simp at d) (λx _ u d=>axe rfl d)
 rwa [adw]at this
theorem aev{w:ω}{v:Value}{L:List Ac}(h:oc w v L):ni w 4 v L.length (L.flatMap qh) :=
 aah ag6 (by decide) h (λb o x y j u d=>by
  obtain⟨z,E,F,I⟩:=y
  match j,d with
  | 0,d=>simp[qh]at d;subst d;exact z
  | 1,d=>simp[qh]at d;subst d;exact E
  | 2,d=>simp[qh]at d;subst d;exact F
  | 3,d=>simp[qh]at d;subst d;exact I
  | j+4,d=>simp[qh]at d) (λx _ u d=>by
  simp only[qh,ij,np,or_false]at d
  rcases d with rfl | rfl | rfl | rfl<;>rfl)
theorem br.one{α:Type}{n:Nat}{P:ω->Nat->Nat->α->Prop}{w:ω}{v:Value}{xs:List α}(h:br n P w v xs):v.oneCell'=true:=by obtain ⟨A,d,rfl,_⟩:=h;rfl
def ap6(w:ω)(b o:Nat)(r:zt):Prop:=StC w b o r.1 r.2.1 r.2.2.1 r.2.2.2/\aaz w r.2.1 r.2.2.1 r.2.2.2 r.1
def ap5(w:ω)(b o:Nat)(r:zr):Prop:=TrC w b o r.1 r.2.1 r.2.2/\wc w r.2.1 r.2.2 r.1
theorem aw8{α ρ:Type}{n:Nat}{P:ω->Nat->Nat->α->Prop}{R:ω->Nat->Nat->ρ->Prop}{val:ρ->α}{w:ω}{v:Value}{xs:List α}(h:br n P w v xs)(U:∀b o x,P w b o x->∃r,val r=x/\R w b o r) :
 ∃rs:List ρ,rs.map val=xs/\br n R w v rs:=by
 obtain⟨A,I,rfl,W,Y⟩:=h;obtain⟨rs,E,F⟩:=ao5 (λi(r:ρ)=>∃b o:Nat,A=some (δ b o)/\b<w.heap.size/\xs[i]?=some (val r)/\R w b (o+i*n) r) xs.length (λi z=>by obtain ⟨b,o,Q,V,Z⟩:=Y i _ (ae z);obtain⟨r,hv,d⟩:=U _ _ _ Z;exact⟨r,b,o,Q,V,by rw[hv];exact ae z,d⟩);refine⟨rs,?_,A,I,by rw[E],by rw[E];exact W,λi r d=>?_⟩
 . apply lr;intro i;rw[gw];cases d:rs[i]? with
   | none =>have:=List.getElem?_eq_none_iff.1 d;rw[Option.map_none,cn (by omega)]
   | some r =>obtain ⟨_,_,_,_,y,_⟩:=F i r d;rw[Option.map_some,y]
 . obtain⟨b,o,J,O,_,y⟩:=F i r d;exact⟨b,o,J,O,y⟩
theorem azt{w:ω}{v:Value}{S:List St}(h:te w v S):∃rs:List zt,rs.map (λr=>r.1)=S/\br 5 ap6 w v rs :=
 aw8 h (λb o x ⟨E,z,F,d,y⟩=>⟨(x,E,z,F),rfl,d,y⟩)
theorem azs{w:ω}{v:Value}{S:List Tr}(h:yx w v S):∃rs:List zr,rs.map (λr=>r.1)=S/\br 6 ap5 w v rs :=
 aw8 h (λb o x ⟨E,z,d,y⟩=>⟨(x,E,z),rfl,d,y⟩)
theorem br.mem{α:Type}{n:Nat}{P:ω->Nat->Nat->α->Prop}{w:ω}{v:Value}{xs:List α}(h:br n P w v xs):∀x∈xs,∃b o,P w b o x:=by intro x E;obtain⟨i,y⟩:=jp E;obtain⟨A,F,_,_,d⟩:=h;obtain⟨b,o,_,_,z⟩:=d i x y;exact⟨b,_,z⟩
theorem azg{w:ω}{v:Value}{rs:List zt}(h:br 5 ap6 w v rs):ni w 5 v rs.length (rs.flatMap kl) :=
 aah o9 (by decide) h (λb o x y j u d=>by
  obtain⟨E,F,I,J,O⟩:=y.1
  match j,d with
  | 0,d=>simp[kl]at d;subst d;exact E
  | 1,d=>simp[kl]at d;subst d;exact F
  | 2,d=>simp[kl]at d;subst d;exact I
  | 3,d=>simp[kl]at d;subst d;exact J
  | 4,d=>simp[kl]at d;subst d;exact O
  | j+5,d=>simp[kl]at d) (λx z u d=>by
  obtain⟨b,o,_,Q,U,V⟩:=h.mem x z
  simp only[kl,ij,np,or_false]at d
  rcases d with rfl | rfl | rfl | rfl | rfl
  . rfl
  . rfl
  . exact br.one Q
  . exact br.one U
  . exact br.one V)
theorem azf{w:ω}{v:Value}{rs:List zr}(h:br 6 ap5 w v rs):ni w 6 v rs.length (rs.flatMap jx) :=
 aah sc (by decide) h (λb o x y j u d=>by
  obtain⟨E,F,I,J,O,Q⟩:=y.1
  match j,d with
  | 0,d=>simp[jx]at d;subst d;exact E
  | 1,d=>simp[jx]at d;subst d;exact F
  | 2,d=>simp[jx]at d;subst d;exact I
  | 3,d=>simp[jx]at d;subst d;exact J
  | 4,d=>simp[jx]at d;subst d;exact O
  | 5,d=>simp[jx]at d;subst d;exact Q
  | j+6,d=>simp[jx]at d) (λx z u d=>by
  obtain⟨b,o,_,U,V⟩:=h.mem x z
  simp only[jx,ij,np,or_false]at d
  rcases d with rfl | rfl | rfl | rfl | rfl | rfl
  . rfl
  . rfl
  . rfl
  . exact br.one U
  . rfl
  . exact br.one V)
def cu{ρ:Type}(B:Nat)(w:ω)(e n:Nat)(cells:ρ->List Value)(v:Value)(rs:List ρ):Prop :=
 (v=.slice none 0 0/\rs=[])\/
 ∃g d y,v=.slice (some (δ g 0)) rs.length d/\B<=g/\cg w g e y/\rs.length<=d/\∀i r j u,rs[i]?=some r->(cells r)[j]?=some u->y[i*n+j]?=some u
theorem cu.fg{ρ:Type}{B:Nat}{w:ω}{e n:Nat}{cells:ρ->List Value}{v:Value}{rs:List ρ}(d:∀r,(cells r).length=n)(h:w.ownsRow B e n v rs.length (rs.flatMap cells)):cu B w e n cells v rs:=by
 rcases h.2 with ⟨rfl,Y⟩ | ⟨g,E,F,rfl,I,O,J,_,Z,W⟩
 . exact .inl ⟨rfl,bh Y⟩
 . refine .inr ⟨g,E,F,rfl,I,O,J,λi r j u y z=>?_⟩;have U:=(bo.1 z).1;rw[d]at U;have Q:=(bo.1 y).1;have V:i*n+j<rs.length*n:=(by have:=my n (show i+1<=rs.length from Q);rw[od]at this;omega);have:=aff d rs i r j u y z;rw[<-W,gn,ao V]at this;rw[<-this];simp
theorem cu.below{ρ:Type}{B:Nat}{w y:ω}{e n:Nat}{cells:ρ->List Value}{v:Value}{rs:List ρ}(h:cu B w e n cells v rs)(Q:κ w y):cu B y e n cells v rs:=by
 rcases h with h | ⟨g,z,E,F,I,d,J,O⟩
 . exact .inl h
 . exact .inr ⟨g,z,E,F,I,d.below Q d.lt,J,O⟩
theorem cu.lower{ρ:Type}{B B':Nat}{w:ω}{e n:Nat}{cells:ρ->List Value}{v:Value}{rs:List ρ}(h:cu B w e n cells v rs)(I:B'<=B):cu B' w e n cells v rs:=by
 rcases h with h | ⟨g,d,y,z,E,F⟩
 . exact .inl h
 . exact .inr ⟨g,d,y,z,a6 I E,F⟩
theorem cu.apart{ρ:Type}{B:Nat}{w:ω}{e n g t:Nat}{cells:ρ->List Value}{v:Value}{rs:List ρ}{cs:Array Value}(h:cu B w e n cells v rs)(z:cg w g t cs)(V:e≠t)(j:Nat)(u:Value):cu B (w.setCell (δ g j) u) e n cells v rs:=by
 rcases h with h | ⟨y,E,F,I,J,d,O⟩
 . exact .inl h
 . refine .inr ⟨y,E,F,I,J,?_,O⟩;have W:y≠g:=(by intro U;subst U;unfold cg at z d;rw[z]at d;injection d with d;injection d with _ Q;exact V Q.symm);show _=_;rw[cz w (δ g j) u y W];exact d
theorem cu.put{ρ:Type}{B:Nat}{w:ω}{e n g Y cap:Nat}{cells:ρ->List Value}{rs:List ρ}{r r':ρ}{i j:Nat}{u:Value}(Q:∀r,(cells r).length=n)(h:cu B w e n cells (.slice (some (δ g 0)) Y cap) rs)(U:rs[i]?=some r)(V:j<n)(hu:cells r'=(cells r).set j u) :
 cu B (w.setCell (δ g (i*n+j)) u) e n cells (.slice (some (δ g 0)) Y cap) (rs.set i r'):=by
 rcases h with ⟨h0,_⟩ | ⟨g',av,ad,h1,h2,h3,h4,I⟩
 . cases h0
 . injection h1 with F e2 e3;injection F with F;injection F with e4;subst e4;subst e2;subst e3;refine .inr ⟨g,cap,ad.setIfInBounds (i*n+j) u,by rw[mn],h2,h3.ca _ _,by rw[mn];exact h4,λy x E Z z d=>?_⟩;have ax:E<n:=(by have:=(bo.1 d).1;rwa [Q]at this);by_cases J:y=i
   . subst J;have ak:=(bo.1 U).1;rw[ea ak]at z;injection z with z;subst z;rw[hu]at d;by_cases W:E=j
     . subst W;rw[ea (by rw[Q];exact V)]at d;injection d with d;subst d;have am:=I y r E _ U (ae (by rw[Q];exact V));have:=(ii.1 am).1;rw[ep this]
     . rw[gf (j1 W)]at d;rw[da (by omega)];exact I y r E Z U d
   . rw[gf (j1 J)]at z;have al:i*n+j≠y*n+E:=by
      intro he;rcases Nat.lt_or_gt_of_ne J with O | O
      . have:=my n (show y+1<=i from O);rw[od]at this;omega
      . have:=my n (show i+1<=y from O);rw[od]at this;omega
     rw[da al];exact I y x E Z z d
theorem cu.rows{ρ α:Type}{B:Nat}{w:ω}{e n:Nat}{cells:ρ->List Value}{v:Value}{rs:List ρ}{val:ρ->α}{P:ω->Nat->Nat->α->Prop}(h:cu B w e n cells v rs)
 (I:∀r∈rs,∀b o,(∀j u,(cells r)[j]?=some u->w.cell? (δ b (o+j))=some u)->P w b o (val r)):br n P w v (rs.map val):=by
 rcases h with ⟨rfl,rfl⟩ | ⟨g,E,Q,rfl,U,d,J,F⟩
 . exact br.nil _
 . refine⟨_,E,by rw[dm],by rw[dm];exact J,λi x z=>?_⟩;rw[gw]at z;obtain⟨r,y,rfl⟩:=gm.1 z;refine⟨g,0,rfl,d.lt,I r (pk y) _ _ λj u O=>?_⟩;rw[d.cell,j2];exact F i r j u y O
theorem cu.at_{ρ:Type}{B:Nat}{w:ω}{e n:Nat}{cells:ρ->List Value}{v:Value}{rs:List ρ}(h:cu B w e n cells v rs){i:Nat}{r:ρ}(z:rs[i]?=some r) :
 ∃g cap d,v=.slice (some (δ g 0)) rs.length cap/\rs.length<=cap/\B<=g/\cg w g e d/\∀j u,(cells r)[j]?=some u->w.cell? (δ g (i*n+j))=some u/\w.frozen? (δ g (i*n+j))=false:=by
 rcases h with ⟨rfl,rfl⟩ | ⟨g,cap,d,rfl,F,y,I,E⟩
 . simp at z
 . exact⟨g,cap,d,rfl,I,F,y,λj u J=>⟨by rw[y.cell];exact E i r j u z J,y.frozen _⟩⟩
def oy(B:Nat)(w:ω)(v:Value)(L:List Int):Prop:=cu B w 3 1 sg v L
def pv(B:Nat)(w:ω)(v:Value)(L:List Ac):Prop:=cu B w 92 4 qh v L
def aqb(B:Nat)(w:ω)(r:zt):Prop:=oy B w r.2.1 r.1.ip/\pv B w r.2.2.1 r.1.kv/\pv B w r.2.2.2 r.1.me
def aqc(B:Nat)(w:ω)(r:zr):Prop:=oy B w r.2.1 r.1.cj/\pv B w r.2.2 r.1.acts
theorem aqb.below{B:Nat}{w y:ω}{r:zt}(h:aqb B w r)(d:κ w y):aqb B y r:=⟨cu.below h.1 d,cu.below h.2.1 d,cu.below h.2.2 d⟩
theorem aqc.below{B:Nat}{w y:ω}{r:zr}(h:aqc B w r)(d:κ w y):aqc B y r:=⟨cu.below h.1 d,cu.below h.2 d⟩
theorem aqb.apart{B:Nat}{w:ω}{r:zt}{g t:Nat}{cs:Array Value}(h:aqb B w r)(d:cg w g t cs)(z:3≠t)(y:92≠t)(j:Nat)(u:Value):aqb B (w.setCell (δ g j) u) r:=⟨cu.apart h.1 d z j u,cu.apart h.2.1 d y j u,cu.apart h.2.2 d y j u⟩
theorem aqc.apart{B:Nat}{w:ω}{r:zr}{g t:Nat}{cs:Array Value}(h:aqc B w r)(d:cg w g t cs)(y:3≠t)(z:92≠t)(j:Nat)(u:Value):aqc B (w.setCell (δ g j) u) r:=⟨cu.apart h.1 d y j u,cu.apart h.2 d z j u⟩
theorem oy.fg{B B':Nat}{w:ω}{v:Value}{L:List Int}(h:w.ownsRow B' 3 1 v L.length (bg L))(d:B<=B'):oy B w v L:=cu.lower (cu.fg (cells:=sg) (n:=1) (λ_=>rfl) (by rw[adw];exact h)) d
theorem pv.fg{B B':Nat}{w:ω}{v:Value}{L:List Ac}(h:w.ownsRow B' 92 4 v L.length (L.flatMap qh))(d:B<=B'):pv B w v L:=(cu.fg ag6 h).lower d
theorem oy.list{B:Nat}{w:ω}{v:Value}{L:List Int}(h:oy B w v L):dd w v L:=by have:=cu.rows (val:=λx:Int=>x) (P:=d7) h (λr _ b o d=>d 0 _ rfl);rwa [pw]at this
theorem pv.acts{B:Nat}{w:ω}{v:Value}{L:List Ac}(h:pv B w v L):oc w v L:=by have:=cu.rows (val:=λx:Ac=>x) (P:=aqd) h (λr _ b o d=>⟨d 0 _ rfl,d 1 _ rfl,d 2 _ rfl,d 3 _ rfl⟩);rwa [pw]at this
def aqa(B:Nat)(w:ω)(v:Value)(rs:List zt):Prop:=cu B w 59 5 kl v rs/\∀r∈rs,aqb B w r
def ap9(B:Nat)(w:ω)(v:Value)(rs:List zr):Prop:=cu B w 62 6 jx v rs/\∀r∈rs,aqc B w r
def th(B:Nat)(w:ω)(vs vt:Value)(C:Ch):Prop:=∃(d:List zt)(y:List zr),d.map (λr=>r.1)=C.ab/\y.map (λr=>r.1)=C.ay/\aqa B w vs d/\ap9 B w vt y
theorem aqa.ab{B:Nat}{w:ω}{v:Value}{rs:List zt}(h:aqa B w v rs):te w v (rs.map λr=>r.1) :=
 cu.rows h.1 (λr y b o d=>⟨r.2.1,r.2.2.1,r.2.2.2,⟨d 0 _ rfl,d 1 _ rfl,d 2 _ rfl,d 3 _ rfl,d 4 _ rfl⟩,(h.2 r y).1.list,(h.2 r y).2.1.acts,(h.2 r y).2.2.acts⟩)
theorem ap9.ay{B:Nat}{w:ω}{v:Value}{rs:List zr}(h:ap9 B w v rs):yx w v (rs.map λr=>r.1) :=
 cu.rows h.1 (λr y b o d=>⟨r.2.1,r.2.2,⟨d 0 _ rfl,d 1 _ rfl,d 2 _ rfl,d 3 _ rfl,d 4 _ rfl,d 5 _ rfl⟩,(h.2 r y).1.list,(h.2 r y).2.acts⟩)
theorem th.has{B:Nat}{w:ω}{vs vt:Value}{C:Ch}(h:th B w vs vt C):d8 w vs vt C:=by obtain ⟨F,I,d,y,z,E⟩:=h;exact⟨d▸z.ab,y▸E.ay⟩
theorem th.below{B:Nat}{w F:ω}{vs vt:Value}{C:Ch}(h:th B w vs vt C)(d:κ w F):th B F vs vt C:=by obtain ⟨O,Q,I,J,z,E⟩:=h;exact⟨O,Q,I,J,⟨z.1.below d,λr y=>(z.2 r y).below d⟩,E.1.below d,λr y=>(E.2 r y).below d⟩
end Go.Proofs.YtpekhdfmmkmjaaaGreatDoor
