/- Texts of the proof, put together. -/
import Derived.Lib.Hide
import Derived.Below
import Derived.OwnWalk
import Derived.Lib.ItoaNum
import Derived.Lib.ParseIntB
import Derived.Lib.Join
import Derived.Lib.Strings
import Derived.Test.YtpekhdfmmkmjaaaGreatDoorRows
import Derived.BigQuiet
import Derived.Deep.QuietTactic
import Derived.Laws.IdiomStrings
import Derived.Laws.MakeOwn
import Derived.Laws.OwnMore
import Derived.Lib.IndexBytes
import Derived.Lib.LaidTab
import Derived.Maps.AppendAt
import Derived.OpenShut
import Derived.Outline
import Derived.ProofKit
import Derived.WalkKit
import Derived.WalkSmall
import Derived.WalkSpells
import Derived.Sort.Grow
import Derived.LaidMore
import Derived.LaidHandle
import Derived.LaidLaws
import Derived.Stop.LaidErr
import Derived.Stop.Joined
namespace Go.Proofs.YtpekhdfmmkmjaaaGreatDoor
set_option maxHeartbeats 1000000
set_option maxRecDepth 100000
set_option linter.unusedVariables false
open Go.RowKit
theorem aa {p:Prop} (h:p):Hid p:=Lib.hid h
abbrev ι (x:Int):Value:=.int .i64 x
abbrev φ (g k:Nat):Value:=.pointer (some ⟨g,k,none⟩)
abbrev δ (g k:Nat):Addr:=⟨g,k,none⟩
abbrev κ (w v:World):Prop:=Below w.heap.size w v
abbrev ω:=World
theorem ιp {P:Program}{e:TypeId}{z:Value}{s b:Nat}(h:(P.info? e).map (fun i=>(i.zero,i.size,i.bytes))=some (some z,s,b)):∃i,Hid (P.info? e=some i)∧Hid (i.zero=some z)∧Hid (i.size=s)∧Hid (i.bytes=b):=info_parts h
theorem ae:type_of% @List.getElem?_eq_getElem:=@List.getElem?_eq_getElem
theorem ag:type_of% @Below.refl:=@Below.refl
theorem ah:type_of% @if_neg:=@if_neg
theorem ai:type_of% @Nat.le_refl:=@Nat.le_refl
theorem ao:type_of% @if_pos:=@if_pos
theorem ar:type_of% @Nat.zero_le:=@Nat.zero_le
theorem aw:type_of% @List.length_append:=@List.length_append
theorem a6:type_of% @Nat.le_trans:=@Nat.le_trans
theorem bd:type_of% @World.ownsRow_nil:=@World.ownsRow_nil
theorem bh:type_of% @List.eq_nil_of_length_eq_zero:=@List.eq_nil_of_length_eq_zero
theorem bi:type_of% @decide_eq_true_eq:=@decide_eq_true_eq
theorem bj:type_of% @Bool.and_eq_true:=@Bool.and_eq_true
theorem bm:type_of% @List.length_cons:=@List.length_cons
theorem bo:type_of% @List.getElem?_eq_some_iff:=@List.getElem?_eq_some_iff
theorem bp:type_of% @List.drop_eq_getElem_cons:=@List.drop_eq_getElem_cons
theorem bq:type_of% @Nat.mul_one:=@Nat.mul_one
theorem bv:type_of% @List.getD_eq_getElem?_getD:=@List.getD_eq_getElem?_getD
theorem bw:type_of% @List.getElem_mem:=@List.getElem_mem
theorem bz:type_of% @List.drop_length:=@List.drop_length
theorem cf:type_of% @List.mem_singleton:=@List.mem_singleton
theorem ch:type_of% @List.length_replicate:=@List.length_replicate
theorem ck:type_of% @Below.grown:=@Below.grown
theorem cn:type_of% @List.getElem?_eq_none:=@List.getElem?_eq_none
theorem cp:type_of% @List.take_succ_eq_append_getElem:=@List.take_succ_eq_append_getElem
theorem cx:type_of% @List.foldl_cons:=@List.foldl_cons
theorem cy:type_of% @List.setIfInBounds_toArray:=@List.setIfInBounds_toArray
theorem cz:type_of% @Below.heap_setCell:=@Below.heap_setCell
theorem c8:type_of% @Nat.lt_of_lt_of_le:=@Nat.lt_of_lt_of_le
theorem da:type_of% @Array.getElem?_setIfInBounds_ne:=@Array.getElem?_setIfInBounds_ne
theorem df:type_of% @decide_eq_false:=@decide_eq_false
theorem dg:type_of% @List.length_nil:=@List.length_nil
theorem dh:type_of% @Bool.eq_iff_iff:=@Bool.eq_iff_iff
theorem dj:type_of% @List.getElem_cons_zero:=@List.getElem_cons_zero
theorem dk:type_of% @List.mem_range:=@List.mem_range
theorem dm:type_of% @List.length_map:=@List.length_map
theorem dn:type_of% @Nat.le_succ_of_le:=@Nat.le_succ_of_le
theorem dq:type_of% @List.getElem_cons_succ:=@List.getElem_cons_succ
theorem dr:type_of% @Bool.false_ne_true:=@Bool.false_ne_true
theorem dv:type_of% @List.foldl_nil:=@List.foldl_nil
theorem dz:type_of% @List.append_nil:=@List.append_nil
theorem ea:type_of% @List.getElem?_set_self:=@List.getElem?_set_self
theorem ed:type_of% @List.take_length:=@List.take_length
theorem em:type_of% @decide_eq_true:=@decide_eq_true
theorem en:type_of% @List.set_cons_zero:=@List.set_cons_zero
theorem eo:type_of% @List.set_cons_succ:=@List.set_cons_succ
theorem ep:type_of% @Array.getElem?_setIfInBounds_self_of_lt:=@Array.getElem?_setIfInBounds_self_of_lt
theorem et:type_of% @Nat.lt_or_ge:=@Nat.lt_or_ge
theorem ey:type_of% @List.mem_filter:=@List.mem_filter
theorem fo:type_of% @List.mem_cons_of_mem:=@List.mem_cons_of_mem
theorem fw:type_of% @beq_false_of_ne:=@beq_false_of_ne
theorem ga:type_of% @List.getElem?_append_right:=@List.getElem?_append_right
theorem gf:type_of% @List.getElem?_set_ne:=@List.getElem?_set_ne
theorem gm:type_of% @Option.map_eq_some_iff:=@Option.map_eq_some_iff
theorem gn:type_of% @List.getElem?_take:=@List.getElem?_take
theorem gq:type_of% @List.length_singleton:=@List.length_singleton
theorem gt:type_of% @List.mem_map:=@List.mem_map
theorem gw:type_of% @List.getElem?_map:=@List.getElem?_map
theorem gy:type_of% @List.any_eq_false:=@List.any_eq_false
theorem ic:type_of% @Nat.pow_le_pow_right:=@Nat.pow_le_pow_right
theorem ie:type_of% @Nat.eq_of_testBit_eq:=@Nat.eq_of_testBit_eq
theorem ig:type_of% @List.mem_cons_self:=@List.mem_cons_self
theorem ii:type_of% @Array.getElem?_eq_some_iff:=@Array.getElem?_eq_some_iff
theorem ij:type_of% @List.mem_cons:=@List.mem_cons
theorem ik:type_of% @List.map_append:=@List.map_append
theorem im:type_of% @Bool.or_eq_true:=@Bool.or_eq_true
theorem iy:type_of% @Nat.add_zero:=@Nat.add_zero
theorem iz:type_of% @List.any_eq_true:=@List.any_eq_true
theorem jb:type_of% @Array.getElem?_eq_getElem:=@Array.getElem?_eq_getElem
theorem jo:type_of% @List.length_take:=@List.length_take
theorem jp:type_of% @List.getElem?_of_mem:=@List.getElem?_of_mem
theorem j1:type_of% @Ne.symm:=@Ne.symm
theorem j2:type_of% @Nat.zero_add:=@Nat.zero_add
theorem j4:type_of% @List.append_assoc:=@List.append_assoc
theorem j6:type_of% @List.takeWhile_cons:=@List.takeWhile_cons
theorem j7:type_of% @List.flatMap_append:=@List.flatMap_append
theorem j8:type_of% @Nat.le_succ:=@Nat.le_succ
theorem j9:type_of% @List.mem_append:=@List.mem_append
theorem kg:type_of% @List.getElem?_append_left:=@List.getElem?_append_left
theorem kj:type_of% @List.length_filter_le:=@List.length_filter_le
theorem kz:type_of% @List.eq_of_mem_replicate:=@List.eq_of_mem_replicate
theorem lr:type_of% @List.ext_getElem?:=@List.ext_getElem?
theorem l6:type_of% @Nat.div_eq_of_lt:=@Nat.div_eq_of_lt
theorem mf:type_of% @Nat.eq_zero_or_pos:=@Nat.eq_zero_or_pos
theorem mm:type_of% @List.range_succ:=@List.range_succ
theorem mn:type_of% @List.length_set:=@List.length_set
theorem mq:type_of% @List.any_append:=@List.any_append
theorem my:type_of% @Nat.mul_le_mul_right:=@Nat.mul_le_mul_right
theorem nl:type_of% @Nat.lt_succ_self:=@Nat.lt_succ_self
theorem nm:type_of% @Nat.add_sub_cancel_left:=@Nat.add_sub_cancel_left
theorem np:type_of% @List.mem_nil_iff:=@List.mem_nil_iff
theorem nq:type_of% @List.length_drop:=@List.length_drop
theorem nr:type_of% @List.all_eq_true:=@List.all_eq_true
theorem ns:type_of% @IntKind.wrap_i64:=@IntKind.wrap_i64
theorem nt:type_of% @Bool.and_assoc:=@Bool.and_assoc
theorem od:type_of% @Nat.succ_mul:=@Nat.succ_mul
theorem oe:type_of% @List.filter_append:=@List.filter_append
theorem o3:type_of% @List.flatMap_cons:=@List.flatMap_cons
theorem pj:type_of% @World.cell?_of_block:=@World.cell?_of_block
theorem pk:type_of% @List.mem_of_getElem?:=@List.mem_of_getElem?
theorem pw:type_of% @List.map_id':=@List.map_id'
theorem qa:type_of% @Array.length_toList:=@Array.length_toList
theorem qk:type_of% @Nat.testBit_and:=@Nat.testBit_and
theorem ql:type_of% @List.nil_append:=@List.nil_append
theorem qr:type_of% @List.getElem?_drop:=@List.getElem?_drop
theorem qs:type_of% @Int.natCast_nonneg:=@Int.natCast_nonneg
theorem su:type_of% @Nat.le_of_lt:=@Nat.le_of_lt
theorem sw:type_of% @Bool.false_and:=@Bool.false_and
theorem uk:type_of% @List.map_cons:=@List.map_cons
theorem vp:type_of% @Nat.pow_pos:=@Nat.pow_pos
open Go.Proofs.Tryz
abbrev Tk:=Int×Int×Int
def nz(c:UInt8):Bool:=decide (c.toNat=32)
def i7(c:UInt8):Bool:=decide (48<=c.toNat)&&decide (c.toNat<=57)
def js(c:UInt8):Bool:=decide (97<=c.toNat)&&decide (c.toNat<=122)
def je(p:UInt8->Bool)(l:List UInt8)(k:Nat):Nat:=k+((l.drop k).takeWhile p).length
def uy(l:List UInt8)(a b:Nat):List UInt8:=(l.drop a).take (b-a)
def val(l:List UInt8):Nat:=l.foldl (λn c=>10*n+(c.toNat-48)) 0
def texts:List (List UInt8):=[[],[],[],[43],[45],[42],[47],[37],[60],[60,61],[61,61],[33,61],[97,110,100],[111,114],[110,111,116],[116,114,117,101],[102,97,108,115,101],[40],[41]]
def nc(w:List UInt8):Nat->Nat->Option Nat
 | 0,_=>none
 | n+1,k=>if texts.getD k []=w then some k else nc w n (k+1)
def na(w:List UInt8):Option Nat:=nc w 16 3
def jm(l:List UInt8)(k e:Nat):Option (Tk×Nat):=(na (uy l k e)).map λj:Nat=>(((j:Int),0,(k:Int)),e)
def i6(l:List UInt8)(k:Nat):Option (Tk×Nat) :=
 if i7 (l.getD k 0)=true then
  if val (uy l k (je i7 l k))<=9223372036854775807 then some ((1,(val (uy l k (je i7 l k)):Int),(k:Int)),je i7 l k) else none
 else if js (l.getD k 0)=true then
  if je js l k=k+1 then some ((2,((l.getD k 0).toNat:Int)-97,(k:Int)),k+1) else jm l k (je js l k)
 else if k+2<=l.length/\na (uy l k (k+2))≠none then jm l k (k+2)
 else jm l k (k+1)
def pa:Nat->List UInt8->Nat->List Tk->List Tk×Int
 | 0,_,_,d=>(d,-1)
 | n+1,l,k,d =>
  if k<l.length then
   if nz (l.getD k 0)=true then pa n l (k+1) d
   else match i6 l k with
    | none=>([],(k:Int))
    | some (t,e)=>pa n l e (d ++ [t])
  else (d,-1)
def pc(l:List UInt8)(k:Nat)(acc:List Tk):List Tk×Int:=pa (l.length-k) l k acc
theorem agp(l:List UInt8)(k:Nat)(h:k<l.length):l.getD k 0=l[k]:=by simp[List.getD,ae h]
theorem o7(p:UInt8->Bool)(l:List UInt8)(k:Nat)(h:k<l.length)(d:p (l.getD k 0)=true):je p l k=je p l (k+1):=by rw[agp l k h]at d;unfold je;rw[bp h,j6,ao d,bm];omega
theorem aa5(p:UInt8->Bool)(l:List UInt8)(k:Nat)(h:k<l.length)(d:p (l.getD k 0)=false):je p l k=k:=by rw[agp l k h]at d;unfold je;rw[bp h,j6,d];simp
theorem ye(p:UInt8->Bool)(l:List UInt8)(k:Nat)(h:l.length<=k):je p l k=k:=by unfold je;rw[List.drop_eq_nil_of_le h];simp
theorem zm(p:UInt8->Bool)(l:List UInt8)(k:Nat):k<=je p l k:=by unfold je;omega
theorem aa6(p:UInt8->Bool)(l:List UInt8)(k:Nat)(h:k<=l.length):je p l k<=l.length:=by unfold je;have:=(List.takeWhile_sublist p (l:=l.drop k)).length_le;rw[nq]at this;omega
theorem arw(p:UInt8->Bool)(l:List UInt8)(k:Nat):uy l k (je p l k)=(l.drop k).takeWhile p:=by unfold uy je;rw[nm];exact(List.prefix_iff_eq_take.1 (List.takeWhile_prefix p)).symm
theorem ak0(l:List UInt8)(a k:Nat)(h:a<=k)(d:k<l.length):uy l a (k+1)=uy l a k ++ [l.getD k 0]:=by unfold uy;rw[agp l k d,show k+1-a=(k-a)+1 from by omega,cp (by rw[nq];omega)];simp only[List.getElem_drop];congr 3;omega
theorem ak1(l:List UInt8)(a:Nat):uy l a a=[]:=by unfold uy;simp
theorem au8(l:List UInt8)(a b:Nat)(h:b<=l.length):(uy l a b).length=b-a:=by unfold uy;rw[jo,nq];omega
theorem a1r(l:List UInt8)(c:UInt8):val (l ++ [c])=10*val l+(c.toNat-48):=by unfold val;rw[List.foldl_append];rfl
theorem aae{l:List UInt8}{k e:Nat}{t:Tk}(E:k<l.length)(h:i6 l k=some (t,e)):k<e/\e<=l.length:=by
 unfold i6 jm at h;have F:=aa6 i7 l (k+1) (by omega);have J:=aa6 js l (k+1) (by omega);have I:=zm i7 l (k+1);have O:=zm js l (k+1);by_cases z:i7 (l.getD k 0)=true
 . rw[ao z,o7 i7 l k E z]at h;by_cases d:val (uy l k (je i7 l (k+1)))<=9223372036854775807
   . rw[ao d]at h;simp only[Option.some.injEq,Prod.mk.injEq]at h;omega
   . rw[ah d]at h;cases h
 . rw[ah z]at h;by_cases d:js (l.getD k 0)=true
   . rw[ao d,o7 js l k E d]at h;by_cases y:je js l (k+1)=k+1
     . rw[ao y]at h;simp only[Option.some.injEq,Prod.mk.injEq]at h;omega
     . rw[ah y,gm]at h;obtain⟨j,_,h⟩:=h;simp only[Prod.mk.injEq]at h;omega
   . rw[ah d]at h;by_cases y:k+2<=l.length/\na (uy l k (k+2))≠none
     . rw[ao y,gm]at h;obtain⟨j,_,h⟩:=h;simp only[Prod.mk.injEq]at h;omega
     . rw[ah y,gm]at h;obtain⟨j,_,h⟩:=h;simp only[Prod.mk.injEq]at h;omega
theorem aer(l:List UInt8):∀(n m k:Nat)(acc:List Tk),l.length-k<=n->l.length-k<=m->pa n l k acc=pa m l k acc
 | 0,0,_,_,_,_=>rfl
 | 0,m+1,k,acc,h,_=>by rw[pa,pa,ah (by omega)]
 | n+1,0,k,acc,_,h=>by rw[pa,pa,ah (by omega)]
 | n+1,m+1,k,acc,E,F=>by
  rw[pa,pa];by_cases d:k<l.length
  . rw[ao d,ao d];by_cases y:nz (l.getD k 0)=true
    . rw[ao y,ao y];exact aer l n m (k+1) acc (by omega) (by omega)
    . rw[ah y,ah y];cases z:i6 l k with
      | none=>rfl
      | some x =>obtain ⟨t,e⟩:=x;have:=aae d z;exact aer l n m e (acc ++ [t]) (by omega) (by omega)
  . rw[ah d,ah d]
theorem aq0(l:List UInt8)(k:Nat)(acc:List Tk)(h:l.length<=k):pc l k acc=(acc,-1):=by unfold pc;rw[show l.length-k=0 from by omega];rfl
theorem aw2(l:List UInt8)(k:Nat)(acc:List Tk)(h:k<l.length)(d:nz (l.getD k 0)=true):pc l k acc=pc l (k+1) acc:=by unfold pc;rw[show l.length-k=(l.length-(k+1))+1 from by omega,pa,ao h,ao d]
theorem af8(l:List UInt8)(k:Nat)(acc:List Tk)(h:k<l.length)(d:nz (l.getD k 0)=false)(y:i6 l k=none):pc l k acc=([],(k:Int)):=by unfold pc;rw[show l.length-k=(l.length-(k+1))+1 from by omega,pa,ao h,ah (by rw[d];exact dr),y]
theorem ack(l:List UInt8)(k e:Nat)(t:Tk)(acc:List Tk)(h:k<l.length)(y:nz (l.getD k 0)=false)(d:i6 l k=some (t,e)):pc l k acc=pc l e (acc ++ [t]):=by have z:=aae h d;unfold pc;rw[show l.length-k=(l.length-(k+1))+1 from by omega,pa,ao h,ah (by rw[y];exact dr),d];exact aer l _ _ e _ (by omega) (by omega)
theorem am5(l:List UInt8)(acc:List Tk):∀(n k:Nat),l.length-k<=n->pc l k acc=pc l (je nz l k) acc
 | 0,k,h=>by rw[ye nz l k (by omega)]
 | n+1,k,h=>by
  by_cases d:k<l.length
  . cases y:nz (l.getD k 0) with
    | true=>rw[aw2 l k acc d y,o7 nz l k d y];exact am5 l acc n (k+1) (by omega)
    | false=>rw[aa5 nz l k d y]
  . rw[ye nz l k (by omega)]
theorem am6(l:List UInt8)(k:Nat)(acc:List Tk):pc l k acc=pc l (je nz l k) acc:=am5 l acc _ k (ai _)
theorem am0(p:UInt8->Bool)(l:List UInt8):∀(n k:Nat),l.length-k<=n->je p l k<l.length->p (l.getD (je p l k) 0)=false
 | 0,k,h,d=>by have:=zm p l k;omega
 | n+1,k,h,d=>by
  by_cases z:k<l.length
  . cases y:p (l.getD k 0) with
    | true=>rw[o7 p l k z y]at d ⊢;exact am0 p l n (k+1) (by omega) d
    | false=>rw[aa5 p l k z y];exact y
  . have:=zm p l k;omega
theorem aqk(p:UInt8->Bool)(l:List UInt8)(k:Nat)(h:je p l k<l.length):p (l.getD (je p l k) 0)=false:=am0 p l _ k (ai _) h
def ah9(n:Nat)(l:List UInt8):Nat:=l.foldl (λn c=>10*n+(c.toNat-48)) n
theorem ar0:∀(l:List UInt8)(n:Nat),n<=ah9 n l
 | [],n=>ai _
 | c::r,n=>by have:=ar0 r (10*n+(c.toNat-48));unfold ah9 at this ⊢;rw[cx];omega
theorem zf:∀(l:List UInt8)(n:Nat),(∀c∈l,i7 c=true)->n<=18446744073709551615->
 Lib.parseUintM 18446744073709551615 n l=if ah9 n l<=18446744073709551615 then .ok (ah9 n l) else .range
 | [],n,_,h=>by rw[Lib.parseUintM,ah9,dv,ao h]
 | c::r,n,E,h=>by
  have z:=E c (by simp);simp only[i7,bj,bi]at z;have F:ah9 n (c::r)=ah9 (10*n+(c.toNat-48)) r:=rfl;have J:=ar0 r (10*n+(c.toNat-48));rw[Lib.parseUintM,ao z,F];by_cases d:1844674407370955162<=n
  . rw[ao d,ah (by omega)]
  . rw[ah d];by_cases y:18446744073709551615<n*10+(c.toNat-48)
    . rw[ao y,ah (by omega)]
    . rw[ah y,show n*10+(c.toNat-48)=10*n+(c.toNat-48) from by omega];exact zf r _ (λx I=>E x (by simp[I])) (by omega)
theorem abv(l:List UInt8)(F:l≠ [])(z:∀c∈l,i7 c=true) :
 Lib.parseIntB 64 l=if val l<=9223372036854775807 then .ok (val l:Int) else .range:=by
 obtain⟨c,r,rfl⟩:=List.exists_cons_of_ne_nil F;have E:=z c (by simp);simp only[i7,bj,bi]at E;have h:=zf (c::r) 0 z (by omega);have I:ah9 0 (c::r)=val (c::r):=rfl;rw[I]at h;unfold Lib.parseIntB;simp only;rw[ah (by omega:¬(c.toNat=43\/c.toNat=45))];unfold Lib.parseUintB;rw[ah (by simp),show 2^64-1=18446744073709551615 from by decide,h];by_cases d:val (c::r)<=18446744073709551615
 . rw[ao d];simp only;rw[ah (by omega:¬(c.toNat=45/\2^(64-1)<val (c::r))),ah (by omega:¬c.toNat=45)];by_cases y:val (c::r)<=9223372036854775807
   . rw[ao y,ah (by omega)]
   . rw[ah y,ao (by omega)]
 . rw[ah d,ah (by omega)]
theorem amq(l:List UInt8)(k:Nat):∀c∈uy l k (je i7 l k),i7 c=true:=by rw[arw];intro c d;exact nr.1 (List.all_takeWhile (p:=i7)) c d
theorem alg(w:List UInt8)(k:Nat)(d:k<=18)(h:texts.getD k []=w):nc w (19-k) k=some k:=by rw[show 19-k=(18-k)+1 from by omega,nc,ao h]
theorem alf(w:List UInt8)(k:Nat)(d:k<=18)(h:¬texts.getD k []=w):nc w (19-k) k=nc w (19-(k+1)) (k+1):=by rw[show 19-k=(19-(k+1))+1 from by omega,nc,ah h]
theorem mg(s:ByteArray)(k:Nat)(h:k<s.size):s[k]=s.data.toList.getD k 0:=by rw[agp _ _ (by rw[<-Lib.size_eq];exact h)];simp[ByteArray.getElem_eq_getElem_data]
theorem wm(s:ByteArray)(a b:Nat)(d:b<=s.size):(s.extract a b).size=b-a:=by rw[Lib.size_eq,Lib.extract_data,jo,nq,<-Lib.size_eq];omega
theorem ba8(l:List UInt8)(p:UInt8->Bool)(k:Nat)(h:k<l.length)(z:p (l.getD k 0)=true):uy l k (je p l k)≠ []:=by intro y;have d:=au8 l k (je p l k) (aa6 p l k (by omega));have E:=zm p l (k+1);rw[y,o7 p l k h z]at d;simp at d;omega
def jy(l:List UInt8)(k:Nat):Nat->Option (Tk×Nat)
 | 0=>none
 | j+1=>match jm l k (k+(j+1)) with
  | some x=>some x
  | none=>jy l k j
theorem ait{l:List UInt8}{k e:Nat}:jm l k e=none↔na (uy l k e)=none:=by unfold jm;exact Option.map_eq_none_iff
theorem aoj(l:List UInt8)(k:Nat)(h:k+2<=l.length):jy l k 2=if k+2<=l.length/\na (uy l k (k+2))≠none then jm l k (k+2) else jm l k (k+1):=by
 rw[jy,jy,jy];cases d:jm l k (k+(1+1)) with
 | some x =>
  have:na (uy l k (k+2))≠none:=λy=>by rw[ait.2 y]at d;cases d
  rw[ao ⟨h,this⟩,<-d];simp only[d]
 | none =>have:na (uy l k (k+2))=none:=ait.1 d;rw[ah (by simp[this])];cases jm l k (k+(0+1))<;>rfl
theorem aok(l:List UInt8)(k:Nat)(h:¬k+2<=l.length):jy l k 1=if k+2<=l.length/\na (uy l k (k+2))≠none then jm l k (k+2) else jm l k (k+1):=by rw[jy,jy,ah (λx=>h x.1)];cases jm l k (k+(0+1))<;>rfl
theorem asu{l:List UInt8}{k e:Nat}{x:Tk×Nat}(h:jm l k e=some x):x.2=e:=by unfold jm at h;rw[gm]at h;obtain⟨j,_,rfl⟩:=h;rfl
theorem aml(l:List UInt8)(k e:Nat)(h:k<e)(d:jm l k e=none):jy l k (e-k)=jy l k (e-1-k):=by rw[show e-k=(e-1-k)+1 from by omega,jy,show k+(e-1-k+1)=e from by omega,d]
theorem amk(l:List UInt8)(k e:Nat)(x:Tk×Nat)(h:k<e)(d:jm l k e=some x):jy l k (e-k)=some x:=by rw[show e-k=(e-1-k)+1 from by omega,jy,show k+(e-1-k+1)=e from by omega,d]
def afp(w:List UInt8):Nat:=if (w == [116,114,117,101])=true then 15 else if (w == [102,97,108,115,101])=true then 16 else if (w == [97,110,100])=true then 12 else if (w == [111,114])=true then 13 else if (w == [110,111,116])=true then 14 else 0
def aid(d:Bool)(b a:Int):Nat×Nat :=
 if (d&&((b==61)&&(a==60)))=true then (9,2) else if (d&&((b==61)&&(a==61)))=true then (10,2) else if (d&&((b==61)&&(a==33)))=true then (11,2)
 else if (a==43)=true then (3,1) else if (a==45)=true then (4,1) else if (a==42)=true then (5,1) else if (a==47)=true then (6,1) else if (a==37)=true then (7,1)
 else if (a==60)=true then (8,1) else if (a==40)=true then (17,1) else if (a==41)=true then (18,1) else (0,0)
def zc(l:List UInt8):Nat×Nat:=aid (decide (1<l.length)) ((l.getD 1 0).toNat:Int) ((l.getD 0 0).toNat:Int)
theorem m7{w:List UInt8}{c:UInt8}{r:List UInt8}(E:w=c::r)(z:js c=true)(d:UInt8)(q:List UInt8)(y:js d=false):¬d::q=w:=by rintro rfl;obtain⟨rfl,rfl⟩:=List.cons.inj E;rw[z]at y;cases y
theorem avq(w:List UInt8)(c:UInt8)(r:List UInt8)(y:w=c::r)(d:js c=true):na w=if afp w=0 then none else some (afp w):=by
 by_cases z:[97,110,100]=w
 . rw[<-z];decide
 by_cases E:[111,114]=w
 . rw[<-E];decide
 by_cases F:[110,111,116]=w
 . rw[<-F];decide
 by_cases I:[116,114,117,101]=w
 . rw[<-I];decide
 by_cases J:[102,97,108,115,101]=w
 . rw[<-J];decide
 have O:=m7 y d 43 [] (by decide);have Q:=m7 y d 45 [] (by decide);have V:=m7 y d 42 [] (by decide);have W:=m7 y d 47 [] (by decide);have Y:=m7 y d 37 [] (by decide);have Z:=m7 y d 60 [] (by decide);have e6:=m7 y d 60 [61] (by decide);have e7:=m7 y d 61 [61] (by decide);have e8:=m7 y d 33 [61] (by decide);have e9:=m7 y d 40 [] (by decide);have U:=m7 y d 41 [] (by decide);have k0:(w == [97,110,100])=false:=by simpa using λh=>z h.symm
 have k1:(w == [111,114])=false:=by simpa using λh=>E h.symm
 have k2:(w == [110,111,116])=false:=by simpa using λh=>F h.symm
 have k3:(w == [116,114,117,101])=false:=by simpa using λh=>I h.symm
 have k4:(w == [102,97,108,115,101])=false:=by simpa using λh=>J h.symm
 have hn:na w=none:=by simp only[na,nc,texts,List.getD_cons_succ,List.getD_cons_zero,z,E,F,I,J,O,Q,V,W,Y,Z,e6,e7,e8,e9,U,↓reduceIte,Nat.reduceAdd]
 rw[hn];simp only[afp,k0,k1,k2,k3,k4,Bool.false_eq_true,↓reduceIte]
theorem a67(b c:UInt8)(n:Int)(h:n=c.toNat):((b.toNat:Int)==n)=decide (c=b):=by
 subst h;rw[dh,beq_iff_eq,decide_eq_true_iff];constructor
 . intro h;exact (UInt8.toNat_inj.1 (by omega)).symm
 . rintro rfl;rfl
theorem ass(a b:UInt8)(d:js a=false):na [a,b]=if ((b.toNat:Int)==61&&((a.toNat:Int)==60))=true then some 9 else if ((b.toNat:Int)==61&&((a.toNat:Int)==61))=true then some 10 else if ((b.toNat:Int)==61&&((a.toNat:Int)==33))=true then some 11 else none:=by
 rw[a67 b 61 61 rfl,a67 a 60 60 rfl,a67 a 61 61 rfl,a67 a 33 33 rfl];have h:¬(111=a):=by rintro rfl;revert d;decide
 simp only[na,nc,texts,List.getD_cons_succ,List.getD_cons_zero,List.cons.injEq,reduceCtorEq,and_false,and_true,h,false_and,↓reduceIte,Nat.reduceAdd,bj,bi];simp only[and_comm]
theorem ast(a:UInt8):na [a]=if ((a.toNat:Int)==43)=true then some 3 else if ((a.toNat:Int)==45)=true then some 4 else if ((a.toNat:Int)==42)=true then some 5 else if ((a.toNat:Int)==47)=true then some 6 else if ((a.toNat:Int)==37)=true then some 7
 else if ((a.toNat:Int)==60)=true then some 8 else if ((a.toNat:Int)==40)=true then some 17 else if ((a.toNat:Int)==41)=true then some 18 else none:=by
 have h:∀n:Fin 256,na [UInt8.ofNat n.val]=if (((UInt8.ofNat n.val).toNat:Int)==43)=true then some 3 else if (((UInt8.ofNat n.val).toNat:Int)==45)=true then some 4 else if (((UInt8.ofNat n.val).toNat:Int)==42)=true then some 5 else if (((UInt8.ofNat n.val).toNat:Int)==47)=true then some 6 else if (((UInt8.ofNat n.val).toNat:Int)==37)=true then some 7
  else if (((UInt8.ofNat n.val).toNat:Int)==60)=true then some 8 else if (((UInt8.ofNat n.val).toNat:Int)==40)=true then some 17 else if (((UInt8.ofNat n.val).toNat:Int)==41)=true then some 18 else none:=by decide +kernel
 have:=h ⟨a.toNat,a.toNat_lt⟩;simpa using this
theorem anm(l:List UInt8)(k i:Nat):(l.drop k).getD i 0=l.getD (k+i) 0:=by simp[List.getD]
theorem axg(l:List UInt8)(k:Nat)(h:k<l.length):uy l k (k+1)=[l.getD k 0]:=by rw[ak0 l k k (ai _) h,ak1];rfl
theorem a8t(l:List UInt8)(k:Nat)(h:k+2<=l.length):uy l k (k+2)=[l.getD k 0,l.getD (k+1) 0]:=by rw[ak0 l k (k+1) (by omega) (by omega),axg l k (by omega)];rfl
theorem a3z(p:UInt8->Bool)(l:List UInt8)(k:Nat)(h:k<l.length)(d:p (l.getD k 0)=true):∃r,uy l k (je p l k)=l.getD k 0::r:=by rw[arw,bp h,<-agp l k h,j6,ao d];exact⟨_,rfl⟩
theorem a16(l:List UInt8)(k:Nat)(z:k<l.length)(y:i7 (l.getD k 0)=false)(d:js (l.getD k 0)=true) :
 i6 l k=if je js l k=k+1 then some ((2,((l.getD k 0).toNat:Int)-97,(k:Int)),k+1)
  else if afp (uy l k (je js l k))=0 then none else some (((afp (uy l k (je js l k)):Int),0,(k:Int)),je js l k):=by
 unfold i6;rw[ah (by rw[y];exact dr),ao d];by_cases h:je js l k=k+1
 . rw[ao h,ao h]
 . rw[ah h,ah h];obtain⟨r,E⟩:=a3z js l k z d;unfold jm;rw[avq _ _ _ E d];split<;>rfl
def one(F:Option Nat):Nat×Nat:=match F with
 | some j=>(j,1)
 | none=>(0,0)
theorem a8j(d y z E F I J O:Bool) :
 (if d=true then (3,1) else if y=true then (4,1) else if z=true then (5,1) else if E=true then (6,1) else if F=true then (7,1) else if I=true then (8,1) else if J=true then (17,1) else if O=true then (18,1) else (0,0))
   = one (if d=true then some 3 else if y=true then some 4 else if z=true then some 5 else if E=true then some 6 else if F=true then some 7 else if I=true then some 8 else if J=true then some 17 else if O=true then some 18 else none):=by
 cases d
 . cases y
   . cases z
     . cases E
       . cases F
         . cases I
           . cases J
             . cases O<;>rfl
             . rfl
           . rfl
         . rfl
       . rfl
     . rfl
   . rfl
 . rfl
def aa9(d c x y z:Bool)(F:Option Nat):Nat×Nat:=if (d&&(c&&x))=true then (9,2) else if (d&&(c&&y))=true then (10,2) else if (d&&(c&&z))=true then (11,2) else one F
theorem aza(d c x y z:Bool)(F:Option Nat)(k:Nat) :
 (if d=true/\(if (c&&x)=true then some 9 else if (c&&y)=true then some 10 else if (c&&z)=true then some 11 else none)≠none
   then (if (c&&x)=true then some 9 else if (c&&y)=true then some 10 else if (c&&z)=true then some 11 else none).map λj:Nat=>((((j:Int),0,(k:Int)),k+2):Tk×Nat)
   else F.map λj:Nat=>((((j:Int),0,(k:Int)),k+1):Tk×Nat))
 = if (aa9 d c x y z F).2=0 then none else some ((((aa9 d c x y z F).1:Int),0,(k:Int)),k+(aa9 d c x y z F).2):=by
 cases d<;>cases c<;>cases x<;>cases y<;>cases z<;>cases F<;>simp[one,aa9]
theorem a7n(d:Bool)(b a:UInt8):aid d (b.toNat:Int) (a.toNat:Int)=aa9 d ((b.toNat:Int)==61) ((a.toNat:Int)==60) ((a.toNat:Int)==61) ((a.toNat:Int)==33) (na [a]):=by rw[ast];unfold aid aa9;rw[a8j]
theorem a17(l:List UInt8)(k:Nat)(F:k<l.length)(E:i7 (l.getD k 0)=false)(y:js (l.getD k 0)=false) :
 i6 l k=if (zc (l.drop k)).2=0 then none else some ((((zc (l.drop k)).1:Int),0,(k:Int)),k+(zc (l.drop k)).2):=by
 have z:zc (l.drop k)=aid (decide (k+2<=l.length)) ((l.getD (k+1) 0).toNat:Int) ((l.getD k 0).toNat:Int):=by unfold zc;rw[anm,anm,nq];congr 1;rw[dh,decide_eq_true_iff,decide_eq_true_iff];omega
 unfold i6;rw[ah (by rw[E];exact dr),ah (by rw[y];exact dr),z,a7n];unfold jm;rw[axg l k F];by_cases d:k+2<=l.length
 . rw[a8t l k d,ass _ _ y];have:=aza (decide (k+2<=l.length)) (((l.getD (k+1) 0).toNat:Int)==61) (((l.getD k 0).toNat:Int)==60) (((l.getD k 0).toNat:Int)==61) (((l.getD k 0).toNat:Int)==33) (na [l.getD k 0]) k;rw[<-this];simp only[bi]
 . rw[ah (λx=>d x.1),df d];cases na [l.getD k 0]<;>simp[one,aa9]
theorem a7g(l:List UInt8)(k:Nat)(d:i7 (l.getD k 0)=true) :
 i6 l k=if val (uy l k (je i7 l k))<=9223372036854775807 then some ((1,(val (uy l k (je i7 l k)):Int),(k:Int)),je i7 l k) else none:=by
 unfold i6;rw[ao d]
def a2e(t:Tk):List UInt8:=if t.1=1 then Lib.itoa t.2.1 else if t.1=2 then [UInt8.ofNat (97+t.2.1.toNat)] else texts.getD t.1.toNat []
theorem ahm(l:List UInt8):∀(n k:Nat)(acc:List Tk),(pa n l k acc).1.length<=acc.length+n
 | 0,_,acc=>by rw[pa];exact ai _
 | n+1,k,acc=>by
  rw[pa];by_cases d:k<l.length
  . rw[ao d];by_cases y:nz (l.getD k 0)=true
    . rw[ao y];have:=ahm l n (k+1) acc;omega
    . rw[ah y];cases i6 l k with
      | none=>simp
      | some x =>obtain ⟨t,e⟩:=x;have:=ahm l n e (acc ++ [t]);simp only[aw,bm,dg]at this ⊢;omega
  . rw[ah d];exact Nat.le_add_right _ _
theorem aqz(l:List UInt8):(pc l 0 []).1.length<=l.length:=by have:=ahm l (l.length-0) 0 [];unfold pc;simpa using this
inductive wv where
 | ok (k:Nat) (o:List Tk)
 | bad (k:Nat)
def jt(ts:List Tk)(k:Nat):Int:=(ts[k]?.map λt=>t.1).getD 0
def num(ts:List Tk)(k:Nat):Int:=(ts[k]?.map λt=>t.2.1).getD 0
def lvl(x:Int):Nat :=
 if x=13 then 1 else if x=12 then 2 else if 8<=x/\x<=11 then 3 else if x=3\/x=4 then 4 else if 5<=x/\x<=7 then 5 else 0
def yp(x:Int):Bool:=decide (x=1)||decide (x=2)||decide (x=15)||decide (x=16)
def jl(r:Option wv)(f:Nat->List Tk->Option wv):Option wv :=
 match r with
 | none=>none
 | some (.bad k)=>some (.bad k)
 | some (.ok k o)=>f k o
def rd(ts:List Tk):Nat->Nat->Nat->List Tk->Option wv
 | 0,_,_,_=>none
 | n+1,y,k,z =>
  if y=6 then
   if jt ts k=4 then jl (rd ts n 6 (k+1) z) λd o=>some (.ok d (o ++ [(19,0,0)]))
   else if yp (jt ts k)=true then some (.ok (k+1) (z ++ [(jt ts k,num ts k,0)]))
   else if jt ts k=17 then jl (rd ts n 1 (k+1) z) λd o=>if jt ts d=18 then some (.ok (d+1) o) else some (.bad d)
   else some (.bad k)
  else if y=3 then
   if jt ts k=14 then jl (rd ts n 3 (k+1) z) λd o=>some (.ok d (o ++ [(14,0,0)]))
   else jl (rd ts n 4 k z) λd o =>
    if lvl (jt ts d)=3 then jl (rd ts n 4 (d+1) o) λE F=>some (.ok E (F ++ [(jt ts d,0,0)])) else some (.ok d o)
  else if y<6 then jl (rd ts n (y+1) k z) λd o=>rd ts n (10+y) d o
  else if lvl (jt ts k)=y-10/\k<ts.length then jl (rd ts n (y-9) (k+1) z) λd o=>rd ts n y d (o ++ [(jt ts k,0,0)])
  else some (.ok k z)
theorem p6{ts:List Tk}{k:Nat}(h:jt ts k≠0):k<ts.length:=by
 rcases et k ts.length with d | d
 . exact d
 . exact absurd (by unfold jt;rw[cn d];rfl) h
theorem axk(ts:List Tk):jt ts ts.length=0:=by unfold jt;simp
theorem aht{ts:List Tk}{k:Nat}{t:Tk}(h:ts[k]?=some t):jt ts k=t.1:=by unfold jt;rw[h];rfl
theorem a3v{ts:List Tk}{k:Nat}{t:Tk}(h:ts[k]?=some t):num ts k=t.2.1:=by unfold num;rw[h];rfl
theorem ak3:lvl 0=0:=by decide
theorem acz{ts:List Tk}{k:Nat}(h:lvl (jt ts k)≠0):k<ts.length:=p6 (λd=>h (by rw[d];exact ak3))
theorem ao0{ts:List Tk}{k:Nat}(h:yp (jt ts k)=true):k<ts.length:=p6 (λd=>by rw[d]at h;exact absurd h (by decide))
theorem ba9(x : Int) : lvl x<=5 := by
 unfold lvl;split;· omega
 split;· omega
 split;· omega
 split;· omega
 split<;>omega
theorem aje{ts:List Tk}{k:Nat}(n:Nat)(d:List Tk)(h:jt ts k=4):rd ts (n+1) 6 k d=jl (rd ts n 6 (k+1) d) λy o=>some (.ok y (o ++ [(19,0,0)])):=by rw[rd,ao rfl,ao h]
theorem ajd{ts:List Tk}{k:Nat}(n:Nat)(d:List Tk)(h:yp (jt ts k)=true):rd ts (n+1) 6 k d=some (.ok (k+1) (d ++ [(jt ts k,num ts k,0)])):=by rw[rd,ao rfl,ah (λy=>by rw[y]at h;exact absurd h (by decide)),ao h]
theorem agc{ts:List Tk}{k:Nat}(n:Nat)(y:List Tk)(h:jt ts k=17):rd ts (n+1) 6 k y=jl (rd ts n 1 (k+1) y) λd o=>if jt ts d=18 then some (.ok (d+1) o) else some (.bad d):=by rw[rd,ao rfl,ah (by omega),ah (by rw[h];decide),ao h]
theorem ajf{ts:List Tk}{k:Nat}(n:Nat)(E:List Tk)(d:jt ts k≠4)(y:yp (jt ts k)=false)(z:jt ts k≠17):rd ts (n+1) 6 k E=some (.bad k):=by rw[rd,ao rfl,ah d,ah (by rw[y];decide),ah z]
theorem ajg{ts:List Tk}{k:Nat}(n:Nat)(d:List Tk)(h:jt ts k=14):rd ts (n+1) 3 k d=jl (rd ts n 3 (k+1) d) λy o=>some (.ok y (o ++ [(14,0,0)])):=by rw[rd,ah (by omega),ao rfl,ao h]
theorem ajh{ts : List Tk}{k : Nat}(n : Nat)(y : List Tk)(h : jt ts k ≠ 14) : rd ts (n + 1) 3 k y = jl (rd ts n 4 k y) λd o =>
        if lvl (jt ts d)=3 then jl (rd ts n 4 (d+1) o) λz E=>some (.ok z (E ++ [(jt ts d,0,0)])) else some (.ok d o):=by
 rw[rd,ah (by omega),ao rfl,ah h]
theorem aos{ts:List Tk}{k:Nat}(n d:Nat)(y:List Tk)(z:d<6)(E:d≠3):rd ts (n+1) d k y=jl (rd ts n (d+1) k y) λF o=>rd ts n (10+d) F o:=by rw[rd,ah (by omega),ah E,ao z]
theorem aot{ts:List Tk}{k:Nat}(n d:Nat)(y:List Tk)(E:1<=d)(h:lvl (jt ts k)=d):rd ts (n+1) (10+d) k y=jl (rd ts n (d+1) (k+1) y) λz o=>rd ts n (10+d) z (o ++ [(jt ts k,0,0)]):=by rw[rd,ah (by omega),ah (by omega),ah (by omega),ao ⟨by omega,acz (by omega)⟩,show 10+d-9=d+1 from by omega]
theorem aou{ts:List Tk}{k:Nat}(n d:Nat)(y:List Tk)(h:lvl (jt ts k)≠d):rd ts (n+1) (10+d) k y=some (.ok k y):=by rw[rd,ah (by omega),ah (by omega),ah (by omega),ah (by omega)]
theorem fc{r:Option wv}{f:Nat->List Tk->Option wv}{R:wv}(h:jl r f=some R):(∃k,r=some (.bad k)/\R=.bad k)\/∃k o,r=some (.ok k o)/\f k o=some R:=by
 unfold jl at h;rcases r with _ | (⟨k,o⟩ | k)
 . cases h
 . exact .inr ⟨k,o,rfl,h⟩
 . injection h with h;exact .inl ⟨k,rfl,h.symm⟩
def ml(ts:List Tk)(k:Nat)(y:List Tk):wv->Prop
 | .ok d o=>k<=d/\d<=ts.length/\o.length+k<=y.length+d
 | .bad d=>k<=d/\d<=ts.length
theorem gh(ts:List Tk):∀(n J k:Nat)(E:List Tk)(R:wv),rd ts n J k E=some R->k<=ts.length->ml ts k E R
 | 0,_,_,_,_,h,_=>by rw[rd]at h;cases h
 | n+1,J,k,E,R,h,V=>by
  by_cases h6:J=6
  . subst h6;by_cases Q:jt ts k=4
    . have O:=p6 (ts:=ts) (k:=k) (by omega);rw[aje n E Q]at h;rcases fc h with ⟨z,y,rfl⟩ | ⟨z,o,y,d⟩
      . have:=gh ts n _ _ _ _ y (by omega);unfold ml at this ⊢;omega
      . have:=gh ts n _ _ _ _ y (by omega);injection d with d;subst d;unfold ml at this ⊢;simp only[aw,bm,dg];omega
    . by_cases W:yp (jt ts k)=true
      . have O:=ao0 W;rw[ajd n E W]at h;injection h with h;subst h;unfold ml;simp only[aw,bm,dg];omega
      . by_cases c3:jt ts k=17
        . have O:=p6 (ts:=ts) (k:=k) (by omega);rw[agc n E c3]at h;rcases fc h with ⟨z,y,rfl⟩ | ⟨z,o,y,d⟩
          . have:=gh ts n _ _ _ _ y (by omega);unfold ml at this ⊢;omega
          . have:=gh ts n _ _ _ _ y (by omega);by_cases U:jt ts z=18
            . have O:=p6 (ts:=ts) (k:=z) (by omega);rw[ao U]at d;injection d with d;subst d;unfold ml at this ⊢;omega
            . rw[ah U]at d;injection d with d;subst d;unfold ml at this ⊢;omega
        . rw[ajf n E Q (by simpa using W) c3]at h;injection h with h;subst h;unfold ml;omega
  . by_cases I:J=3
    . subst I;by_cases Q:jt ts k=14
      . have O:=p6 (ts:=ts) (k:=k) (by omega);rw[ajg n E Q]at h;rcases fc h with ⟨z,y,rfl⟩ | ⟨z,o,y,d⟩
        . have:=gh ts n _ _ _ _ y (by omega);unfold ml at this ⊢;omega
        . have:=gh ts n _ _ _ _ y (by omega);injection d with d;subst d;unfold ml at this ⊢;simp only[aw,bm,dg];omega
      . rw[ajh n E Q]at h;rcases fc h with ⟨z,y,rfl⟩ | ⟨z,o,y,d⟩
        . exact gh ts n _ _ _ _ y V
        . have F:=gh ts n _ _ _ _ y V;by_cases U:lvl (jt ts z)=3
          . have O:=acz (ts:=ts) (k:=z) (by omega);rw[ao U]at d;rcases fc d with ⟨ad,I,rfl⟩ | ⟨ad,o',I,Z⟩
            . have:=gh ts n _ _ _ _ I (by omega);unfold ml at this F ⊢;omega
            . have:=gh ts n _ _ _ _ I (by omega);injection Z with Z;subst Z;unfold ml at this F ⊢;simp only[aw,bm,dg];omega
          . rw[ah U]at d;injection d with d;subst d;exact F
    . by_cases hl:J<6
      . rw[aos n J E hl I]at h;rcases fc h with ⟨z,y,rfl⟩ | ⟨z,o,y,d⟩
        . exact gh ts n _ _ _ _ y V
        . have F:=gh ts n _ _ _ _ y V;have Y:=gh ts n _ _ _ _ d (by unfold ml at F;omega);cases R<;>unfold ml at F Y ⊢<;>omega
      . by_cases hc:lvl (jt ts k)=J-10/\k<ts.length
        . have O:=hc.2;rw[rd,ah h6,ah I,ah hl,ao hc]at h;rcases fc h with ⟨z,y,rfl⟩ | ⟨z,o,y,d⟩
          . have:=gh ts n _ _ _ _ y (by omega);unfold ml at this ⊢;omega
          . have F:=gh ts n _ _ _ _ y (by omega);have Y:=gh ts n _ _ _ _ d (by unfold ml at F;omega);cases R<;>unfold ml at F Y ⊢<;>simp only[aw,bm,dg]at *<;>omega
        . rw[rd,ah h6,ah I,ah hl,ah hc]at h;injection h with h;subst h;unfold ml;omega
def Got(ts:List Tk)(y k:Nat)(r:Option wv):Prop:=∃R,r=some R/\∀d o,R=.ok d o->d<=ts.length/\k<=d/\(y<=6->k<d)
theorem Got.bad(ts:List Tk)(y k d:Nat):Got ts y k (some (.bad d)):=⟨_,rfl,λ_ _ h=>by cases h⟩
theorem yr{ts:List Tk}{z k E y:Nat}{r:Option wv}{f:Nat->List Tk->Option wv}(h:Got ts E y r)(I:∀d o,r=some (.ok d o)->d<=ts.length->y<=d->(E<=6->y<d)->Got ts z k (f d o)):Got ts z k (jl r f):=by
 obtain⟨R,rfl,F⟩:=h;cases R with
 | bad d=>exact Got.bad ts z k d
 | ok d o=>obtain ⟨a,b,c⟩:=F d o rfl;exact I d o rfl a b c
theorem Got.ok{ts:List Tk}{y k d:Nat}(o:List Tk)(z:d<=ts.length)(E:k<=d)(F:y<=6->k<d):Got ts y k (some (.ok d o)) :=
 ⟨_,rfl,λa b h=>by injection h with I J;subst I;exact ⟨z,E,F⟩⟩
def ai5(y d k:Nat):Nat:=20*(y-k)+(if d<=6 then 20-2*d else 20)
theorem uf(ts:List Tk):∀(n z k:Nat)(d:List Tk),1<=z->z<=6\/11<=z->k<=ts.length->ai5 ts.length z k<n->Got ts z k (rd ts n z k d)
 | 0,_,_,_,_,_,_,h=>by omega
 | n+1,z,k,d,h1,h2,hk,h=>by
  unfold ai5 at h;by_cases h6:z=6
  . subst h6;rw[ao (by omega)]at h;by_cases I:jt ts k=4
    . have F:=p6 (ts:=ts) (k:=k) (by omega);rw[aje n d I];exact yr (uf ts n 6 (k+1) d (by omega) (by omega) (by omega) (by unfold ai5;rw[ao (by omega)];omega)) λE o _ a b c=>Got.ok _ a (by omega) (by omega)
    . by_cases O:yp (jt ts k)=true
      . have F:=ao0 O;rw[ajd n d O];exact Got.ok _ (by omega) (by omega) (by omega)
      . by_cases Y:jt ts k=17
        . have F:=p6 (ts:=ts) (k:=k) (by omega);rw[agc n d Y];refine yr (uf ts n 1 (k+1) d (by omega) (by omega) (by omega) (by unfold ai5;rw[ao (by omega)];omega)) λE o _ a b c=>?_;by_cases J:jt ts E=18
          . have F:=p6 (ts:=ts) (k:=E) (by omega);rw[ao J];exact Got.ok _ (by omega) (by omega) (by omega)
          . rw[ah J];exact Got.bad _ _ _ _
        . rw[ajf n d I (by simpa using O) Y];exact Got.bad _ _ _ _
  . by_cases Z:z=3
    . subst Z;rw[ao (by omega)]at h;by_cases I:jt ts k=14
      . have F:=p6 (ts:=ts) (k:=k) (by omega);rw[ajg n d I];exact yr (uf ts n 3 (k+1) d (by omega) (by omega) (by omega) (by unfold ai5;rw[ao (by omega)];omega)) λE o _ a b c=>Got.ok _ a (by omega) (by omega)
      . rw[ajh n d I];refine yr (uf ts n 4 k d (by omega) (by omega) (by omega) (by unfold ai5;rw[ao (by omega)];omega)) λE o _ a b c=>?_;have W:=c (by omega);by_cases J:lvl (jt ts E)=3
        . have F:=acz (ts:=ts) (k:=E) (by omega);rw[ao J];exact yr (uf ts n 4 (E+1) o (by omega) (by omega) (by omega) (by unfold ai5;rw[ao (by omega)];omega)) λak o _ a b c=>Got.ok _ a (by omega) (by omega)
        . rw[ah J];exact Got.ok _ a b (λ_=>c (by omega))
    . by_cases hl:z<6
      . rw[ao (by omega)]at h;rw[aos n z d hl Z];refine yr (uf ts n (z+1) k d (by omega) (by omega) (by omega) (by unfold ai5;rw[ao (by omega)];omega)) λE o _ a b c=>?_;have W:=c (by omega);obtain⟨R,Q,U⟩:=uf ts n (10+z) E o (by omega) (by omega) (by omega) (by unfold ai5;rw[ah (by omega)];omega);exact⟨R,Q,λx y V=>by obtain ⟨p,q,_⟩:=U x y V;exact ⟨p,by omega,λ_=>by omega⟩⟩
      . rw[ah (by omega)]at h;obtain⟨l,rfl⟩:∃l,z=10+l:=⟨z-10,by omega⟩;by_cases hc:lvl (jt ts k)=l
        . have F:=acz (ts:=ts) (k:=k) (by omega);have ad:=ba9 (jt ts k);rw[aot n l d (by omega) hc];refine yr (uf ts n (l+1) (k+1) d (by omega) (by omega) (by omega) (by unfold ai5;rw[ao (by omega)];omega)) λE o _ a b c=>?_;have W:=c (by omega);obtain⟨R,Q,U⟩:=uf ts n (10+l) E (o ++ [(jt ts k,0,0)]) (by omega) (by omega) (by omega) (by unfold ai5;rw[ah (by omega)];omega);exact⟨R,Q,λx y V=>by obtain ⟨p,q,_⟩:=U x y V;exact ⟨p,by omega,λ_=>by omega⟩⟩
        . rw[aou n l d hc];exact Got.ok _ hk (by omega) (by omega)
def adp(ts:List Tk):Option wv:=rd ts (20*ts.length+20) 1 0 []
theorem abe(ts:List Tk):∃R,adp ts=some R:=by obtain ⟨R,h,_⟩:=uf ts (20*ts.length+20) 1 0 [] (by omega) (by omega) (by omega) (by unfold ai5;rw[ao (by omega)];omega);exact⟨R,h⟩
open Go.ChangeShapes Go.WideShapes Go.ChangeAt
theorem az{a b:Bool}(h:a=b):Ending.returned (.bool a)=.returned (.bool b):=by rw[h]
theorem cw{k:IntKind}{a b:Int}(h:a=b):Ending.returned (.int k a)=.returned (.int k b):=by rw[h]
def bytes(l:List UInt8):ByteArray:=⟨l.toArray⟩
def yg:List Value:=texts.map λl=>.string (bytes l)
def ju(w:ω):Prop :=
 6 <= w.heap.size /\ w.var? prog "spinet/lex.texts" = some yg.toArray /\ True
  /\ (∃ d p, w.var? prog "strconv.ErrRange" = some #[.iface d p]) /\ Lib.TabIs prog w "internal/strconv.uint64pow10" .u64 Lib.pow10Tab
theorem g1 : prog.globalNamed "spinet/lex.texts" = some 1 := by kernel_rfl
theorem g2 : prog.globalNamed "internal/strconv.uint64pow10" = some 4 := by kernel_rfl
theorem g5 : prog.globalNamed "strconv.ErrRange" = some 3 := by kernel_rfl
theorem ju.below{B:Nat}{w z:ω}(h:ju w)(d:Below B w z)(Q:6<=B):ju z:=by obtain ⟨E,F,I,⟨O,p,J⟩,y⟩:=h;refine⟨a6 E d.size,var?_below d g1 (by omega) F,I,⟨O,p,var?_below d g5 (by omega) J⟩,?_⟩;unfold Lib.TabIs at y ⊢;exact var?_below d g2 (by omega) y
theorem ju.after{w d:ω}(h:ju w)(y:κ w d):ju d:=h.below y h.1
theorem ju.text{w:ω}(h:ju w)(k:Nat)(d:k<19):w.cell? (δ 1 k)=some (.string (bytes (texts.getD k []))):=by rw[World.var?_cell g1 h.2.1 k];have:k<yg.length:=d;simp[yg,List.getD,ae (show k<texts.length from d)]
def jr:Option (Tk×Nat)->Value
 | none=>.tuple #[.agg #[ι 0,ι 0,ι 0],ι 0,.bool false]
 | some (t,e)=>.tuple #[.agg #[ι t.1,ι t.2.1,ι t.2.2],ι e,.bool true]
theorem akf(l:List UInt8)(s:ByteArray)(a b:Nat):((bytes l).toList==(s.extract a b).toList)=decide (l=uy s.data.toList a b):=by rw[Lib.toList_data,Lib.extract_toList,dh,beq_iff_eq];exact(decide_eq_true_iff (p:=l=uy s.data.toList a b)).symm
theorem bx{B:Nat}{a w:ω}(h:Below B a w)(n:Nat):Below B a (w.drewN n):=⟨h.os,h.tape,h.output,h.size,h.block⟩
theorem anu{W d:ω}(y:κ W d):(∀b o,b<W.heap.size->d.cell? (δ b o)=W.cell? (δ b o))/\(∀b o,b<W.heap.size->d.frozen? (δ b o)=W.frozen? (δ b o)) :=
 ⟨λb o h=>y.cell (p:=(δ b o)) h,λb o h=>y.frozen (p:=(δ b o)) h⟩
theorem l3(w:ω):(binOp .neq 30 .nilIface .nilIface).run prog w=.ok (.bool false) w:=by kernel_rfl
def cg(w:ω)(g:Nat)(t:TypeId)(cs:Array Value):Prop:=w.heap[g]?=some (.cells cs t (0,0))
theorem cg.cell{w:ω}{g:Nat}{t:TypeId}{cs:Array Value}(h:cg w g t cs)(i:Nat):w.cell? (δ g i)=cs[i]?:=cell_of_row w g i cs t (0,0) h
theorem cg.frozen{w:ω}{g:Nat}{t:TypeId}{cs:Array Value}(h:cg w g t cs)(i:Nat):w.frozen? (δ g i)=false:=by unfold cg at h;simp[World.frozen?,h]
theorem cg.new(w:ω)(t:TypeId)(cs:Array Value):cg (w.alloc (.cells cs t)) w.heap.size t cs:=heap_alloc_new w _
theorem cg.below{w d:ω}{g:Nat}{t:TypeId}{cs:Array Value}{B:Nat}(h:cg w g t cs)(y:Below B w d)(z:g<B):cg d g t cs:=(y.block g z).trans h
theorem cg.drewN{w:ω}{g:Nat}{t:TypeId}{cs:Array Value}(h:cg w g t cs)(n:Nat):cg (w.drewN n) g t cs:=h
theorem cg.ca{w:ω}{g:Nat}{t:TypeId}{cs:Array Value}(h:cg w g t cs)(i:Nat)(u:Value):cg (w.setCell (δ g i) u) g t (cs.setIfInBounds i u):=by unfold cg at h ⊢;simp[World.setCell,Array.getElem?_modify,h]
theorem cg.l7{w:ω}{g:Nat}{t:TypeId}{x y z:Value}(h:cg w g t #[x,y,z])(a b c:Value) :
 cg (((w.setCell (δ g 0) a).setCell (δ g 1) b).setCell (δ g 2) c) g t #[a,b,c]:=((h.ca 0 a).ca 1 b).ca 2 c
theorem cg.lt{w:ω}{g:Nat}{t:TypeId}{cs:Array Value}(h:cg w g t cs):g<w.heap.size:=by
 rcases et g w.heap.size with y | d
 . exact y
 . unfold cg at h;rw[Array.getElem?_eq_none d]at h;cases h
theorem cg.alloc{w:ω}{g:Nat}{t:TypeId}{cs:Array Value}(h:cg w g t cs)(o:Obj):cg (w.alloc o) g t cs:=(Below.heap_alloc w o g h.lt).trans h
theorem cg.ax{w:ω}{g:Nat}{t:TypeId}{x y z:Value}(h:cg w g t #[x,y,z]) :
 (w.cell? (δ g 0)=some x/\w.cell? (δ g 1)=some y/\w.cell? (δ g 2)=some z)/\(w.frozen? (δ g 0)=false/\w.frozen? (δ g 1)=false/\w.frozen? (δ g 2)=false) :=
 ⟨⟨h.cell 0,h.cell 1,h.cell 2⟩,h.frozen 0,h.frozen 1,h.frozen 2⟩
theorem ms{I:Func}{r t u:Tmp}(O:I.results=#[.cell r 206,.tmp t,.tmp u])(d:Array Value)(w:ω)(g:Nat)(a b c:Value)
 (J:d.getD r undef=φ g 0)(y:cg w g 206 #[a,b,c]) :
 (results I d).run prog w=.ok (.tuple #[.agg #[a,b,c],d.getD t undef,d.getD u undef]) w:=by
 have z:=y.cell 0;have E:=y.cell 1;have F:=y.cell 2;simp at z E F J;simp[results,O,J,go_sem,z,E,F]
theorem adm(r:Option (Tk×Nat)):∃a b c d e,jr r=.tuple #[.agg #[ι a,ι b,ι c],ι d,.bool e]:=by
 cases r with
 | none=>exact ⟨0,0,0,0,false,rfl⟩
 | some x=>exact ⟨x.1.1,x.1.2.1,x.1.2.2,x.2,true,rfl⟩
def mr(t:Tk):List Value:=[ι t.1,ι t.2.1,ι t.2.2]
def g9(ts:List Tk):List Value:=ts.flatMap mr
theorem aec(ts:List Tk)(t:Tk):g9 (ts ++ [t])=g9 ts++mr t:=by simp[g9]
theorem gc{a w:ω}(h:κ a w)(row:Option Nat):a.grownBy w row:=⟨h.os,h.tape,h.output,h.size,λi d _=>h.block i d⟩
theorem bl{w y:ω}{base:Nat}{e:TypeId}{size:Nat}{v:Value}{n:Nat}{xs:List Value}(h:w.ownsRow base e size v n xs)(z:κ w y):y.ownsRow base e size v n xs:=by
 refine h.kept (gc z none) ?_;by_cases d:v.ownBlock=none
 . exact .inl d
 . exact .inr d
theorem Tryz.ai3:(Tryz.prog.info? 206).map (λi=>(i.zero,i.size,i.bytes))=some (some (.agg #[ι 0,ι 0,ι 0]),3,24):=by kernel_rfl
theorem acf(t:Tk):∀u∈mr t,u.oneCell'=true:=by intro u d;simp only[mr,ij,np,or_false]at d;rcases d with rfl | rfl | rfl<;>rfl
theorem tt(w:ω)(t:TypeId)(k:Tk)(g:Nat)(z:w.heap.size=g):∀j u,(mr k)[j]?=some u->(w.alloc (.cells #[ι k.1,ι k.2.1,ι k.2.2] t)).cell? (((δ g 0):Addr).add j)=some u:=by
 intro j u E;subst z;have d:=cg.new w t #[ι k.1,ι k.2.1,ι k.2.2];have y:((δ w.heap.size 0):Addr).add j=(δ w.heap.size j):=by unfold Addr.add;split<;>simp_all
 rw[y,d.cell j,<-E];simp[mr]
theorem cg.dy(w:ω)(t:TypeId)(cs:Array Value)(g:Nat)(d:w.heap.size=g):cg (w.alloc (.cells cs t)) g t cs:=d▸cg.new w t cs
def a9y(R:List Tk×Int)(w:ω)(e:Ending)(d:ω):Prop :=
 κ w d/\((R.2=-1/\∃v,e=.returned (.tuple #[v,.nilIface])/\d.ownsRow w.heap.size 206 3 v R.1.length (g9 R.1))
  \/(∃k g:Nat,R=([],(k:Int))/\e=.returned (.tuple #[.slice none 0 0,.iface 95 (φ g 0)])/\w.heap.size<=g/\cg d g 97 #[ι k,ι 2]))
theorem aw6{a b c d:Int}(y:a=c)(z:b=d):Ending.returned (.tuple #[ι a,ι b])=.returned (.tuple #[ι c,ι d]):=by rw[y,z]
def a90(R:List Tk×Int)(w:ω)(e:Ending)(d:ω):Prop :=
 κ w d/\((R.2=-1/\∃v,e=.returned (.tuple #[v,ι (-1)])/\d.ownsRow w.heap.size 206 3 v R.1.length (g9 R.1))
  \/(∃k:Nat,R=([],(k:Int))/\e=.returned (.tuple #[.slice none 0 0,ι (k:Int)])))
theorem ad7{w y z:ω}{v:Value}{n:Nat}{xs:List Value}{o:Obj}(d:κ w y)(F:y.ownsRow w.heap.size 206 3 v n xs)(E:(y.alloc o).grownBy z v.ownBlock):κ w z :=
 (d.alloc d.size o).grown E (by simp;have:=d.size;omega) (λg h=>(F.lt g h).1)
theorem aaj{d:ω}{B:Nat}{v:Value}{ts:List Tk}{t:Tk}(h:d.ownsRow B 206 3 v (ts.length+1) (g9 ts++mr t)):d.ownsRow B 206 3 v (ts ++ [t]).length (g9 (ts ++ [t])):=by rw[aec];simpa using h
def lw(w:ω)(v:Value)(ts:List Tk):Prop :=
 ∃(A:Option Addr)(d:Nat),v=.slice A ts.length d/\ts.length<=d/\∀(i:Nat)(t:Tk),ts[i]?=some t->∃b o:Nat,A=some (δ b o)/\b<w.heap.size/\
  w.cell? (δ b (o+i*3))=some (ι t.1)/\w.cell? (δ b (o+i*3+1))=some (ι t.2.1)/\w.cell? (δ b (o+i*3+2))=some (ι t.2.2)
theorem lw.below{w z:ω}{v:Value}{ts:List Tk}(h:lw w v ts)(d:κ w z):lw z v ts:=by obtain ⟨A,E,W,Q,U⟩:=h;refine⟨A,E,W,Q,λi t V=>?_⟩;obtain⟨b,o,O,y,F,I,J⟩:=U i t V;exact⟨b,o,O,c8 y d.size,(d.cell (p:=(δ b _)) y).trans F,(d.cell (p:=(δ b _)) y).trans I,(d.cell (p:=(δ b _)) y).trans J⟩
theorem ba0(ts:List Tk):∀(i:Nat)(t:Tk),ts[i]?=some t->(g9 ts)[i*3]?=some (ι t.1)/\(g9 ts)[i*3+1]?=some (ι t.2.1)/\(g9 ts)[i*3+2]?=some (ι t.2.2):=by
 induction ts with
 | nil=>intro i t h;simp at h
 | cons x r F =>
  intro i t h
  have d:g9 (x::r)=ι x.1::ι x.2.1::ι x.2.2::g9 r:=rfl
  cases i with
  | zero=>simp at h;subst h;rw[d];exact ⟨rfl,rfl,rfl⟩
  | succ i =>
   simp at h
   obtain⟨y,z,E⟩:=F i t h
   rw[d,show(i+1)*3=i*3+3 from by omega]
   exact⟨y,z,E⟩
theorem lw.fg{w:ω}{B:Nat}{v:Value}{ts:List Tk}(h:w.ownsRow B 206 3 v ts.length (g9 ts)):lw w v ts:=by
 rcases h.2 with ⟨rfl,V⟩ | ⟨g,E,F,rfl,_,U,Q,_,hs,W⟩
 . have:ts=[]:=bh V;subst this;exact⟨none,0,rfl,ai _,λi t h=>by simp at h⟩
 . refine⟨_,E,rfl,Q,λi t z=>?_⟩;obtain⟨I,J,O⟩:=ba0 ts i t z;have y:cg w g 206 F:=U;have hl:i<ts.length:=(bo.1 z).1;have d:∀j u,j<ts.length*3->(g9 ts)[j]?=some u->w.cell? (δ g (0+j))=some u:=(by intro j u Z Y;rw[y.cell,<-Y,<-W,gn,ao (by omega)];simp);exact⟨g,0,rfl,y.lt,d _ _ (by omega) I,d _ _ (by omega) J,d _ _ (by omega) O⟩
def ani : List (String × DataW Unit) := [("math/bits.deBruijn32tab", Rows.laid_math_bits_deBruijn32tab), ("math/bits.deBruijn64tab", Rows.laid_math_bits_deBruijn64tab), ("internal/strconv.uint64pow10", Rows.laid_internal_strconv_uint64pow10), ("strconv.ErrRange", Rows.laid_strconv_ErrRange), ("strconv.ErrSyntax", Rows.laid_strconv_ErrSyntax), ("spinet/lex.texts", Rows.laid_spinet_lex_texts)]
theorem own:ownKnob prog.godebug=none:=by kernel_rfl
theorem g7 : prog.globalNamed "math/bits.deBruijn64tab" = some 5 := by kernel_rfl
theorem t1:(prog.globals[1]?).map (·.type)=some 288:=by kernel_rfl
theorem t2:(prog.globals[4]?).map (·.type)=some 328:=by kernel_rfl
theorem t5:(prog.globals[3]?).map (·.type)=some 30:=by kernel_rfl
theorem c48:prog.cellsOf 292=1:=by kernel_rfl
theorem bc9:prog.cellsOf 328=20:=by kernel_rfl
theorem c9:prog.cellsOf 9=1:=by kernel_rfl
theorem c77:prog.cellsOf 288=19:=by kernel_rfl
theorem a5g(os:Os)(d:Array Value):laidMetH prog ani ((World.doorLaid prog 67 os).forCall (λ_ _=>0) ⟨#[],d,[]⟩).memory :=
 laidMetH_of_parts3 (fuel:=8) (laidMet_of_run' 8 (by kernel_rfl) (by kernel_rfl)) (by kernel_rfl) (by kernel_rfl)
theorem aqp:(Rows.laid_spinet_lex_texts:DataW Unit)=.agg (texts.map λl=>.lit (.string l)):=rfl
theorem aub{W:ω}{m:Nat}{l:List Value}{xs:List (DataW Unit×List MemPlace)}(Q:l.length=19)(U:xs.length=19)(J:xs.map (·.1)=texts.map λl=>.lit (.string l))
 (I:∀i,i<19->DataW.trod (λ_=>()) prog W 0 (λ_=>true) false m 9 ((l.drop (i*1)).take 1)=xs[i]?):l=yg:=by
 refine lr λi=>?_;by_cases y:i<19
 . have E:=I i y;have F:xs[i]?=some (xs[i]'(by omega)):=ae (by omega);rw[F,bq]at E;obtain⟨s,z,O,_⟩:=DataW.trod_string underlying9 E;rw[bp (by omega:i<l.length)]at z;simp only[List.take_succ_cons,List.take_zero,List.cons.injEq,and_true]at z;have d:(xs.map (·.1))[i]?=some (.lit (.string s.data.toList)):=(by rw[gw,F,O];rfl);rw[J,gw,ae (show i<texts.length from y)]at d;simp only[Option.map_some,Option.some.injEq,DataW.lit.injEq,Lit.string.injEq]at d;rw[ae (by omega:i<l.length),z];unfold yg;rw[gw,ae (show i<texts.length from y),d];simp only[Option.map_some,bytes,Lib.mk_data]
 . rw[cn (by omega),cn (show yg.length<=i by have:yg.length=19:=rfl;omega)]
theorem ar1{W:ω}(h:laidMetH prog ani W):ju W:=by
 have hp:laidMet prog ani W:=h;have U:=laidMet.tail hp;have V:=laidMet.tail U;have Y:=laidMet.tail V;have ak:=laidMet.tail Y;have al:=laidMet.tail ak;refine⟨?_,?_,?_,?_,?_⟩
 . obtain⟨Z,⟨g,t,E,J,p,q,y,z,d,_⟩,_⟩:=U;have:=World.var?_cell y d;obtain rfl:=Option.some.inj (g7.symm.trans y);unfold World.var? at d;rw[g7]at d;simp only[Option.bind_some]at d;rcases et 5 W.heap.size with h | h
   . omega
   . rw[Array.getElem?_eq_none h]at d;cases d
 . obtain⟨Z,⟨g,t,E,J,p,q,y,z,d,F,_⟩,_⟩:=al;obtain rfl:=Option.some.inj (g1.symm.trans y);obtain rfl:=Option.some.inj (t1.symm.trans z);rw[d];obtain⟨xs,m,rfl,I,Q,hn,O⟩:=DataW.trod_array underlying288 F;rw[c77]at Q;rw[c9]at O;rw[aqp]at I;simp only[Prod.mk.injEq,DataW.agg.injEq]at I;have:=aub Q hn I.1.symm O;rw[<-this]
 . trivial
 . obtain⟨Z,⟨g,t,E,J,p,q,y,z,d,F,_⟩,_⟩:=Y;obtain rfl:=Option.some.inj (g5.symm.trans y);obtain rfl:=Option.some.inj (t5.symm.trans z);obtain⟨f1,u,v,ad,_,_⟩:=iface_of_trod underlying30 F;obtain⟨l⟩:=E;obtain rfl:l=_:=ad;exact⟨u,v,d⟩
 . exact Lib.tabIs_of_head g2 t2 underlying328 underlying292 c48 bc9 V
structure Ac where
 kind:Int
 n:Int
 m:Int
 expr:ByteArray
structure St where
 kind:Int
 par:Int
 ip:List Int
 kv:List Ac
 me:List Ac
structure Tr where
 src:Int
 ev:Int
 guard:ByteArray
 cj:List Int
 inner:Bool
 acts:List Ac
structure Ch where
 vars:Int
 ab:List St
 ay:List Tr
def acx:Ac:=⟨0,0,0,⟨#[]⟩⟩
def pz:St:=⟨0,0,[],[],[]⟩
def mt:Tr:=⟨0,0,⟨#[]⟩,[],false,[]⟩
def m9(n a b:Int):Bool:=decide (a<=n)&&decide (n<=b)
def ct(k:Int):Bool:=decide (k=5)||decide (k=6)
def aq(S:List St)(s:Int):St:=S.getD s.toNat pz
def c6(S:List St)(s:Int):Bool:=decide (0<=s)&&decide (s<(S.length:Int))
def lu(S:List St)(s:Int):Int:=if c6 S s=true/\m9 (aq S s).par 0 (s-1)=true then (aq S s).par else -1
def inF(S:List St):Nat->Int->Int->Bool
 | 0,_,_=>false
 | n+1,p,b=>if p<0 then false else if p=b then true else inF S n (lu S p) b
def jc(S:List St)(a b:Int):Bool:=inF S (a.toNat+1) (lu S a) b
def wu(n:Nat)(f:Nat->Bool):Bool:=(List.range n).all f
def atr(n:Nat)(f:Nat->Int):Option Nat:=(List.range n).find? λi=>decide (f i≠0)
def vw(S:List St)(s:Int)(k:Nat):Bool:=decide ((aq S k).par=s)&&!ct (aq S k).kind
def sf(S:List St)(s:Int)(n:Nat):List Int:=((List.range n).filter (vw S s)).map λk:Nat=>(k:Int)
def lj(S:List St)(s:Int):List Int:=sf S s S.length
section
variable (T:ByteArray→Int→Int→Bool)
def ai7(d:Int)(a:Ac):Bool :=
 if a.kind=1 then m9 a.n 0 (d-1)&&decide (a.m=0)&&T a.expr d 1
 else if a.kind=2\/a.kind=4 then m9 a.n 1 1000&&decide (a.m=0)&&decide (a.expr.size=0)
 else if a.kind=3 then m9 a.n 1 1000&&m9 a.m 0 1000&&T a.expr d 1
 else if a.kind=5 then decide (a.n=0)&&decide (a.m=0)&&T a.expr d 1
 else false
def aby(d:Int)(l:List Ac):Bool:=decide (l.length<=5)&&wu l.length λi=>ai7 T d (l.getD i acx)
def ain(S:List St)(s:Int):Bool:=if s=0 then decide ((aq S s).kind=2) else m9 (aq S s).kind 1 6
def ahq(S:List St)(s:Int):Bool:=if s=0 then decide ((aq S s).par=-1) else decide ((aq S s).par=s-1)||jc S (s-1) (aq S s).par
def zn(S:List St)(s:Int):Bool :=
 if s=0 then true
 else if (aq S s).kind=4 then decide ((aq S (aq S s).par).kind=2)
 else if ct (aq S s).kind=true/\(aq S s).par=0 then false
 else decide ((aq S (aq S s).par).kind=2)||decide ((aq S (aq S s).par).kind=3)
def ae5(S:List St)(s:Int):Bool:=decide ((aq S s).kind=2)||decide ((aq S s).kind=3)
def amn(S:List St)(s:Int):Bool :=
 if (aq S s).kind≠2/\ct (aq S s).kind=false then decide ((aq S s).ip.length=0)
 else if (aq S s).ip.length≠1 then false
 else if c6 S ((aq S s).ip.getD 0 0)=false\/ct (aq S ((aq S s).ip.getD 0 0)).kind=true then false
 else if (aq S s).kind=5 then decide ((aq S ((aq S s).ip.getD 0 0)).par=(aq S s).par)
 else if (aq S s).kind=6 then jc S ((aq S s).ip.getD 0 0) (aq S s).par
 else jc S ((aq S s).ip.getD 0 0) s
def aa8(S:List St)(d s:Int):Bool :=
 if ct (aq S s).kind=true then decide ((aq S s).kv.length=0)&&decide ((aq S s).me.length=0)
 else aby T d (aq S s).kv&&aby T d (aq S s).me
def stF(S:List St)(d s:Int):Int :=
 if ain S s=false then 10
 else if ahq S s=false then 1
 else if zn S s=false then 10
 else if ae5 S s=true/\(lj S s).length=0 then 4
 else if amn S s=false then 11
 else if aa8 T S d s=false then 1
 else 0
def ma(S:List St)(s:Int):Bool:=decide (s≠0)&&c6 S s
def aqv(S:List St)(s:Int):Bool:=ma S s&&m9 (aq S s).kind 1 3
def evB(S:List St)(e:Int):Bool:=m9 e 0 1000||decide (e=1001)||decide (e=1002)||m9 e 2000 (2000+(S.length:Int)-1)
def afg(S:List St)(s:Int):Int:=if ct (aq S s).kind=true then (aq S s).par else s
def apF(S:List St):Nat->Int->Int->Bool
 | 0,_,_=>false
 | n+1,p,b=>if p<0 then false else if jc S b p=true then decide ((aq S p).kind=3) else apF S n (lu S p) b
def apart(S:List St)(a b:Int):Bool :=
 if a=b\/jc S a b=true\/jc S b a=true then false else apF S (a.toNat+1) (lu S a) b
def aii(S:List St)(l:List Int)(i:Nat):Bool:=wu i λk=>apart S (afg S (l.getD i 0)) (afg S (l.getD k 0))
def yf(S:List St)(l:List Int):Bool :=
 decide (l.length<=3)&&wu l.length (λi=>ma S (l.getD i 0))&&wu l.length (aii S l)
def trF(S:List St)(d:Int)(t:Tr):Int :=
 if aqv S t.src=false then 10
 else if evB S t.ev=false then 1
 else if yf S t.cj=false then 11
 else if t.guard.size≠0/\T t.guard d 2=false then 8
 else if aby T d t.acts=false then 1
 else 0
def qo(C:Ch):Bool:=m9 C.vars 0 8&&m9 (C.ab.length:Int) 1 24&&decide (C.ay.length<=40)
inductive CA where
 | ok
 | large
 | spot (k:Nat) (c:Int)
def chk(C:Ch):CA :=
 if qo C=false then .large
 else match atr C.ab.length (λs=>stF T C.ab C.vars (s:Int)) with
  | some s=>.spot s (stF T C.ab C.vars (s:Int))
  | none=>match atr C.ay.length (λi=>trF T C.ab C.vars (C.ay.getD i mt)) with
   | some i=>.spot (C.ab.length+i) (trF T C.ab C.vars (C.ay.getD i mt))
   | none=>.ok
end
def ly(l:List Ac):Bool:=wu l.length (λi=>decide ((l.getD i acx).expr.size<=500))&&decide (l.length<=20)
def p7(s:St):Bool:=ly s.kv&&ly s.me&&decide (s.ip.length<=20)
def qp(t:Tr):Bool:=ly t.acts&&decide (t.cj.length<=20)&&decide (t.guard.size<=500)
def fewB(C:Ch):Bool :=
 decide (C.ab.length<=40)&&decide (C.ay.length<=60)&&wu C.ab.length (λi=>p7 (C.ab.getD i pz))&&wu C.ay.length (λi=>qp (C.ay.getD i mt))
theorem nh{n:Nat}{f:Nat->Bool}(h:∀i,i<n->f i=true):wu n f=true:=by unfold wu;rw[nr];exact λi d=>h i (dk.1 d)
theorem oa{n:Nat}{f:Nat->Bool}(i:Nat)(d:i<n)(h:f i=false):wu n f=false:=by unfold wu;rw[List.all_eq_false];exact ⟨i,dk.2 d,by rw[h];exact dr⟩
theorem zh{n:Nat}{f:Nat->Bool}(h:wu n f=true)(i:Nat)(d:i<n):f i=true:=by unfold wu at h;rw[nr]at h;exact h i (dk.2 d)
theorem ad9{n:Nat}{f:Nat->Int}(h:∀i,i<n->f i=0):atr n f=none:=by unfold atr;rw[List.find?_eq_none];intro i d;simp[h i (dk.1 d)]
theorem aei{n:Nat}{f:Nat->Int}:atr n f=none↔∀i,i<n->f i=0:=by refine ⟨λh i d=>?_,ad9⟩;unfold atr at h;rw[List.find?_eq_none]at h;have:=h i (dk.2 d);simpa using this
theorem anv{n:Nat}{f:Nat->Int}(i:Nat)(y:i<n)(h:f i≠0)(d:∀j,j<i->f j=0):atr n f=some i:=by unfold atr;rw[List.find?_range_eq_some];exact⟨by simpa using h,dk.2 y,λj z=>by simp[d j z]⟩
theorem ak7(S:List St)(s:Int)(n:Nat):sf S s (n+1)=sf S s n++if vw S s n=true then [(n:Int)] else []:=by
 unfold sf;rw[mm,oe,ik];by_cases h:vw S s n=true
 . simp[h]
 . simp[h]
theorem aam(S:List St)(s:Int)(n:Nat):(sf S s n).length<=n:=by unfold sf;rw[dm];have:=kj (vw S s) (List.range n);simpa using this
theorem mc{n a b:Int}:m9 n a b=true↔a<=n/\n<=b:=by simp[m9]
theorem zx(S:List St)(s:Int):lu S s<s\/lu S s=-1:=by
 unfold lu;split
 . rename_i h;have:=mc.1 h.2;left;omega
 . exact .inr rfl
theorem adf(S:List St)(s:Int):-1<=lu S s:=by
 unfold lu;split
 . rename_i h;have:=mc.1 h.2;omega
 . omega
theorem alr(S:List St)(s:Int):lu S s<(S.length:Int):=by
 unfold lu c6;split
 . rename_i h;have:=mc.1 h.2;have:=h.1;simp at this;omega
 . omega
theorem n5{S:List St}{s:Int}(h:0<=lu S s):c6 S s=true/\lu S s=(aq S s).par/\lu S s<s:=by
 unfold lu at h ⊢;split at h
 . rename_i d;rw[ao d];have:=mc.1 d.2;exact ⟨d.1,rfl,by omega⟩
 . omega
theorem sj(S:List St)(p:Int)(d:0<=p):(lu S p+1).toNat<(p+1).toNat:=by rcases zx S p with h | h<;>omega
theorem asj(S:List St)(b:Int):∀(n m:Nat)(p:Int),(p+1).toNat<=n->(p+1).toNat<=m->inF S n p b=inF S m p b
 | 0,0,_,_,_=>rfl
 | 0,m+1,p,y,_=>by rw[inF,inF,ao (by omega)]
 | n+1,0,p,_,z=>by rw[inF,inF,ao (by omega)]
 | n+1,m+1,p,y,z=>by
  rw[inF,inF];by_cases d:p<0
  . rw[ao d,ao d]
  . have:=sj S p (by omega);rw[ah d,ah d,asj S b n m (lu S p) (by omega) (by omega)]
theorem a5q(S:List St)(a b:Int)(n:Nat)(h:(lu S a+1).toNat<=n):jc S a b=inF S n (lu S a) b:=by unfold jc;refine asj S b _ _ _ ?_ h;rcases zx S a with d | d<;>omega
theorem ah1(S:List St)(a b:Int):jc S a b=if lu S a<0 then false else if lu S a=b then true else jc S (lu S a) b:=by
 have e:jc S a b=inF S (a.toNat+1) (lu S a) b:=rfl;rw[e,inF];by_cases h:lu S a<0
 . rw[ao h,ao h]
 . rw[ah h,ah h];by_cases d:lu S a=b
   . rw[ao d,ao d]
   . rw[ah d,ah d,a5q S (lu S a) b a.toNat];have:=sj S (lu S a) (by omega);rcases zx S a with y | y<;>omega
theorem n7(S:List St)(a b:Int):jc S a b=true↔0<=lu S a/\(lu S a=b\/jc S (lu S a) b=true):=by
 rw[ah1];by_cases h:lu S a<0
 . rw[ao h];simp;omega
 . rw[ah h];by_cases d:lu S a=b
   . rw[ao d];simp[d];omega
   . rw[ah d];simp[d];omega
theorem als{S:List St}:∀(n:Nat)(a b:Int),a.toNat<=n->jc S a b=true->0<=b/\b<a/\c6 S a=true
 | n,a,b,J,h=>by
  obtain⟨y,d⟩:=(n7 S a b).1 h;obtain⟨z,O,E⟩:=n5 y;rcases d with d | d
  . subst d;exact ⟨y,E,z⟩
  . cases n with
    | zero=>omega
    | succ n =>obtain ⟨I,Q,U⟩:=als n (lu S a) b (by omega) d;exact⟨I,by omega,z⟩
theorem lm{S:List St}{a b:Int}(h:jc S a b=true):0<=b/\b<a/\c6 S a=true:=als a.toNat a b (ai _) h
theorem anr{S:List St}:∀(n:Nat)(a b c:Int),a.toNat<=n->jc S a b=true->jc S b c=true->jc S a c=true
 | n,a,b,c,z,h,k=>by
  obtain⟨y,d⟩:=(n7 S a b).1 h;obtain⟨E,I,J⟩:=n5 y;refine(n7 S a c).2 ⟨y,?_⟩;rcases d with d | d
  . subst d;exact .inr k
  . cases n with
    | zero=>omega
    | succ n=>exact .inr (anr n (lu S a) b c (by omega) d k)
theorem ahy{T:ByteArray->Int->Int->Bool}{C:Ch}(h:chk T C=.ok) :
 qo C=true/\(∀s,s<C.ab.length->stF T C.ab C.vars (s:Int)=0)/\(∀i,i<C.ay.length->trF T C.ab C.vars (C.ay.getD i mt)=0):=by
 unfold chk at h;split at h
 . cases h
 . rename_i d;split at h
   . cases h
   . rename_i y;split at h
     . cases h
     . rename_i z;exact⟨by simpa using d,aei.1 y,aei.1 z⟩
theorem bbu{T:ByteArray->Int->Int->Bool}{C:Ch}(d:qo C=true)(y:∀s,s<C.ab.length->stF T C.ab C.vars (s:Int)=0)(z:∀i,i<C.ay.length->trF T C.ab C.vars (C.ay.getD i mt)=0):chk T C=.ok:=by unfold chk;rw[ah (by rw[d];simp),ad9 y];simp only;rw[ad9 z]
theorem aoh{T:ByteArray->Int->Int->Bool}{S:List St}{y s:Int}(h:stF T S y s=0):ahq S s=true:=by
 unfold stF at h;split at h
 . omega
 . split at h
   . omega
   . rename_i d;simpa using d
theorem aow{T:ByteArray->Int->Int->Bool}{C:Ch}(h:chk T C=.ok)(s:Int)(E:0<s)(I:s<(C.ab.length:Int)):0<=lu C.ab s/\(lu C.ab s=s-1\/jc C.ab (s-1) (lu C.ab s)=true):=by
 have d:=aoh ((ahy h).2.1 s.toNat (by omega));rw[show ((s.toNat:Nat):Int)=s by omega]at d;unfold ahq at d;rw[ah (by omega)]at d;simp only[im,bi]at d;have y:0<=(aq C.ab s).par/\(aq C.ab s).par<=s-1:=by
  rcases d with d | d
  . omega
  . have:=lm d;omega
 have z:lu C.ab s=(aq C.ab s).par:=by unfold lu;rw[ao ⟨by unfold c6;simp;omega,mc.2 y⟩]
 rw[z];exact⟨y.1,d⟩
theorem asi{T:ByteArray->Int->Int->Bool}{C:Ch}(h:chk T C=.ok):∀(n:Nat)(s:Int),s.toNat<=n->0<s->s<(C.ab.length:Int)->jc C.ab s 0=true
 | n,s,I,y,z=>by
  obtain⟨d,J⟩:=aow h s y z;obtain⟨_,_,O⟩:=n5 d;refine(n7 _ _ _).2 ⟨d,?_⟩;by_cases E:lu C.ab s=0
  . exact .inl E
  . cases n with
    | zero=>omega
    | succ n=>exact .inr (asi h n (lu C.ab s) (by omega) (by omega) (by omega))
def de(A:Nat->Bool)(s:Int):Nat->Bool:=λk=>A k||decide ((k:Int)=s)
def Le(A B:Nat->Bool):Prop:=∀k,A k=true->B k=true
def qm(S:List St):Nat->Int->List Int
 | 0,_=>[]
 | n+1,p=>if p<0 then [] else p::qm S n (lu S p)
def wx(S:List St)(s:Int):List Int:=qm S (s.toNat+1) (lu S s)
def cm(n k:Nat):Bool:=decide (n / 2^k%2=1)
def agk(S:List St)(P:Nat->Bool):List Int:=((List.range S.length).filter P).map λk:Nat=>(k:Int)
def ir(H:List Nat)(s:Int):Nat:=H.getD s.toNat 0
def za(S:List St)(H:List Nat)(s:Int):List Int :=
 if c6 S s=false then [] else if ct (aq S s).kind=false then [s] else if ir H s≠0 then agk S (cm (ir H s)) else (aq S s).ip
section
variable {σ:Type} (S:List St) (t:σ→Int→Bool) (ad:σ→Int→σ) (F:σ→Int→σ)
def ke(st:σ)(k:Int):σ:=if t st k=true then st else F st k
def ym(p:Int)(st:σ):σ:=(lj S p).foldl (ke t F) st
def zu(st:σ)(p:Int):σ:=if (aq S p).kind=3 then ym S t F p (ad st p) else ad st p
def upW(d:Int):List Int->σ->σ
 | [],st=>st
 | p::r,st=>if p=d then st else upW d r (zu S t ad F st p)
def ld(d:Int)(st:σ)(s:Int):σ:=upW S t ad F d (wx S s) st
def al2(l:List Int)(d:Int)(st:σ):σ:=l.foldl (ld S t ad F d) (l.foldl F st)
end
def g6(S:List St)(A:Nat->Bool)(k:Int):Bool:=(List.range S.length).any λx=>A x&&jc S (x:Int) k
def am3(S:List St)(A:Nat->Bool)(k:Int):Bool:=(List.range S.length).any λx=>A x&&(jc S (x:Int) k&&!ct (aq S (x:Int)).kind)
structure Bs where
 a:Nat->Bool
 b:Nat->Bool
def adB(st:Bs)(p:Int):Bs:=⟨de st.a p,st.b⟩
def tB(S:List St)(st:Bs)(k:Int):Bool:=am3 S st.a k
def pB(S:List St)(H:List Nat):Nat->Bs->Int->Bs
 | 0,st,_=>st
 | f+1,st,s =>
  if c6 S s=false\/st.b s.toNat=true then st
  else if ct (aq S s).kind=true then al2 S (tB S) adB (pB S H f) (za S H s) (aq S s).par ⟨st.a,de st.b s⟩
  else if (aq S s).kind=2 then al2 S (tB S) adB (pB S H f) (aq S s).ip s ⟨de st.a s,de st.b s⟩
  else if (aq S s).kind=3 then ym S (tB S) (pB S H f) s ⟨de st.a s,de st.b s⟩
  else ⟨de st.a s,de st.b s⟩
def dB(S:List St)(H:List Nat):Nat->(Nat->Bool)->Int->(Nat->Bool)
 | 0,A,_=>A
 | f+1,A,s =>
  if c6 S s=false then A
  else if ct (aq S s).kind=true then al2 S (g6 S) de (dB S H f) (za S H s) (aq S s).par A
  else if (aq S s).kind=2 then al2 S (g6 S) de (dB S H f) (aq S s).ip s (de A s)
  else if (aq S s).kind=3 then ym S (g6 S) (dB S H f) s (de A s)
  else de A s
def ka(acc:List Int)(x:Int):List Int:=if acc.contains x=true then acc else acc ++ [x]
def uu(S:List St)(H:List Nat)(l:List Int):List Int:=l.foldl (λd s=>(za S H s).foldl ka d) []
def ae1(S:List St)(H:List Nat)(d:Int)(l:List Int):Bs :=
 (uu S H l).foldl (ld S (tB S) adB (pB S H (S.length+2)) d) (l.foldl (pB S H (S.length+2)) ⟨λ_=>false,λ_=>false⟩)
def agx(S:List St)(H:List Nat)(d:Int)(l:List Int):Nat->Bool :=
 (uu S H l).foldl (ld S (g6 S) de (dB S H (S.length+2)) d) (l.foldl (dB S H (S.length+2)) (λ_=>false))
structure l1 (S:List St):Prop where
 len:S.length<=24
 pos:0<S.length
 par:∀s,c6 S s=true->(aq S s).par=lu S s
 up:∀s,c6 S s=true->0<s->0<=lu S s
 bca:∀s,0<=lu S s->(aq S (lu S s)).kind=2\/(aq S (lu S s)).kind=3
 first:(aq S 0).kind=2
 bcb:∀s,c6 S s=true->(aq S s).kind=2->∃t,(aq S s).ip=[t]/\c6 S t=true/\ct (aq S t).kind=false/\jc S t s=true
 a1l:∀s,c6 S s=true->ct (aq S s).kind=true->∃t,(aq S s).ip=[t]/\c6 S t=true/\ct (aq S t).kind=false/\jc S t (aq S s).par=true
 kid:∀s,c6 S s=true->(aq S s).kind=2\/(aq S s).kind=3->lj S s≠ []
 all:∀s,c6 S s=true->0<s->jc S s 0=true
theorem agn{k:Int}(h:k=2\/k=3):ct k=false:=by rcases h with rfl | rfl<;>decide
theorem fj{S:List St}{s:Int}:c6 S s=true↔0<=s/\s<(S.length:Int):=by unfold c6;simp
theorem wy{T:ByteArray->Int->Int->Bool}{S:List St}{I s:Int}(h:stF T S I s=0):ain S s=true/\zn S s=true/\¬(ae5 S s=true/\(lj S s).length=0)/\amn S s=true:=by
 unfold stF at h;split at h
 . omega
 . rename_i d;split at h
   . omega
   . split at h
     . omega
     . rename_i y;split at h
       . omega
       . rename_i z;split at h
         . omega
         . rename_i E;exact⟨by simpa using d,by simpa using y,z,by simpa using E⟩
theorem arz{l:List Int}(h:l.length=1):l=[l.getD 0 0]:=by
 match l,h with
 | [x],_=>rfl
theorem gr{T:ByteArray->Int->Int->Bool}{C:Ch}(h:chk T C=.ok):l1 C.ab:=by
 obtain⟨V,h1,_⟩:=ahy h;have a1:1<=(C.ab.length:Int)/\(C.ab.length:Int)<=24:=by unfold qo at V;simp only[bj,mc]at V;exact V.1.2
 have I:∀s,c6 C.ab s=true->stF T C.ab C.vars s=0:=λs I=>by have:=fj.1 I;have:=h1 s.toNat (by omega);rwa [show ((s.toNat:Nat):Int)=s by omega]at this
 have U:∀s,c6 C.ab s=true->(aq C.ab s).par=lu C.ab s:=λs y=>by
  have hr:=fj.1 y;by_cases hz:s=0
  . have O:=aoh (I s y);unfold ahq at O;rw[ao hz]at O;have al:(aq C.ab s).par=-1:=(by simpa using O);rw[al];unfold lu;rw[al,ah];intro E;have:=mc.1 E.2;omega
  . obtain⟨Z,_⟩:=aow h s (by omega) hr.2;exact((n5 Z).2.1).symm
 have av:∀s,c6 C.ab s=true->0<s->0<=lu C.ab s:=λs y O=>(aow h s O (fj.1 y).2).1;have ak:(aq C.ab 0).kind=2:=by have:=(wy (I 0 (fj.2 ⟨by omega,by omega⟩))).1;unfold ain at this;simpa using this
 refine⟨by omega,by omega,U,av,λs Y=>?_,ak,λs y z=>?_,λs y z=>?_,λs y z hn=>?_,λs y O=>?_⟩
 . obtain⟨Z,p2,p3⟩:=n5 Y;have J:=(wy (I s Z)).2.1;unfold zn at J;rw[ah (by omega),<-p2]at J;split at J
   . left;simpa using J
   . split at J
     . cases J
     . simpa using J
 . have d:=(wy (I s y)).2.2.2;unfold amn at d;rw[ah (by rw[z];simp)]at d;split at d
   . cases d
   . rename_i hl;split at d
     . cases d
     . rename_i Q;rw[z]at d;simp only[ah (show ¬(2:Int)=5 by decide),ah (show ¬(2:Int)=6 by decide)]at d;refine⟨_,arz (by omega),?_,?_,d⟩
       . cases E:c6 C.ab ((aq C.ab s).ip.getD 0 0) with
         | true=>rfl
         | false=>exact absurd (.inl E) Q
       . cases E:ct (aq C.ab ((aq C.ab s).ip.getD 0 0)).kind with
         | false=>rfl
         | true=>exact absurd (.inr E) Q
 . have d:=(wy (I s y)).2.2.2;have a0:s≠0:=(by rintro rfl;rw[ak]at z;revert z;decide);have hr:=fj.1 y;unfold amn at d;rw[ah (by rw[z];simp)]at d;split at d
   . cases d
   . rename_i hl;split at d
     . cases d
     . rename_i Q;have am:c6 C.ab ((aq C.ab s).ip.getD 0 0)=true:=by
        cases E:c6 C.ab ((aq C.ab s).ip.getD 0 0) with
        | true=>rfl
        | false=>exact absurd (.inl E) Q
       have ax:ct (aq C.ab ((aq C.ab s).ip.getD 0 0)).kind=false:=by
        cases E:ct (aq C.ab ((aq C.ab s).ip.getD 0 0)).kind with
        | false=>rfl
        | true=>exact absurd (.inr E) Q
       refine⟨_,arz (by omega),am,ax,?_⟩;generalize (aq C.ab s).ip.getD 0 0=x at *;split at d
       . have W:(aq C.ab x).par=(aq C.ab s).par:=(by simpa using d);have Y:=av s y (by omega);rw[U x am,U s y]at W;rw[U s y];exact(n7 _ _ _).2 ⟨by rw[W];exact Y,.inl W⟩
       . split at d
         . exact d
         . rename_i h5 h6;unfold ct at z;simp[h5,h6]at z
 . have:=(wy (I s y)).2.2.1;refine this ⟨?_,by rw[hn];rfl⟩;unfold ae5;rcases z with z | z<;>rw[z]<;>decide
 . exact asi h s.toNat s (ai _) O (fj.1 y).2
theorem ar4{S:List St}{p k:Int}:k∈lj S p↔c6 S k=true/\(aq S k).par=p/\ct (aq S k).kind=false:=by
 unfold lj sf;rw[gt];constructor
 . rintro⟨j,E,rfl⟩;obtain⟨y,d⟩:=ey.1 E;unfold vw at d;simp only[bj,bi,Bool.not_eq_true']at d;exact⟨fj.2 ⟨by omega,by have:=dk.1 y;omega⟩,d.1,d.2⟩
 . rintro⟨y,d,z⟩;have I:=fj.1 y;refine⟨k.toNat,ey.2 ⟨dk.2 (by omega),?_⟩,by omega⟩;have e:((k.toNat:Nat):Int)=k:=(by omega);unfold vw;rw[e,d,z];simp
theorem l1.aty{S:List St}(E:l1 S){p k:Int}(I:0<=p)(h:k∈lj S p):c6 S k=true/\lu S k=p/\ct (aq S k).kind=false/\p<k/\jc S k p=true:=by obtain ⟨y,d,z⟩:=ar4.1 h;rw[E.par k y]at d;have:=n5 (S:=S) (s:=k) (by omega);exact⟨y,d,z,by omega,(n7 _ _ _).2 ⟨by omega,.inl d⟩⟩
theorem aws{S:List St}{q:Int}:∀(n:Nat)(p:Int),q∈qm S n p->q=p\/jc S p q=true
 | 0,p,h=>by simp[qm]at h
 | n+1,p,h=>by
  rw[qm]at h;split at h
  . cases h
  . rcases ij.1 h with h | h
    . exact .inl h
    . right;rcases aws n _ h with d | d
      . refine(n7 _ _ _).2 ⟨?_,.inl d.symm⟩;cases n with
        | zero=>simp[qm]at h
        | succ n =>
         rw[qm]at h;split at h
         . cases h
         . omega
      . exact(n7 _ _ _).2 ⟨by have:=lm d;omega,.inr d⟩
theorem a1w{S:List St}{s q:Int}(h:q∈wx S s):jc S s q=true:=by
 have y:0<=lu S s:=by
  unfold wx at h;rw[qm]at h;split at h
  . cases h
  . omega
 rcases aws _ _ h with d | d
 . exact(n7 _ _ _).2 ⟨y,.inl d.symm⟩
 . exact(n7 _ _ _).2 ⟨y,.inr d⟩
theorem aj3{S:List St}{b:Int}:∀(n:Nat)(p:Int),(p=b\/jc S p b=true)->∀q∈(qm S n p).takeWhile (λx=>decide (x≠b)),jc S q b=true
 | 0,p,h,q,d=>by simp[qm]at d
 | n+1,p,h,q,d=>by
  rw[qm]at d;split at d
  . cases d
  . by_cases y:p=b
    . rw[j6,ah (by simp[y])]at d;cases d
    . rw[j6,ao (by simpa using y)]at d;have z:jc S p b=true:=(by rcases h with h | h;exact absurd h y;exact h);rcases ij.1 d with rfl | d
      . exact z
      . exact aj3 n _ ((n7 _ _ _).1 z).2 q d
theorem ayt{S:List St}{s b:Int}(h:jc S s b=true):∀q∈(wx S s).takeWhile (λx=>decide (x≠b)),jc S q b=true:=aj3 _ _ ((n7 _ _ _).1 h).2
section
variable {σ τ:Type} {S:List St} {R:σ→τ→Prop} {t:σ→Int→Bool} {ad:σ→Int→σ} {F:σ→Int→σ} {t':τ→Int→Bool} {ad':τ→Int→τ} {F':τ→Int→τ}
theorem aaq{α:Type}(G:σ->α->σ)(z:τ->α->τ):∀(L:List α)(st:σ)(d:τ),(∀x∈L,∀st d,R st d->R (G st x) (z d x))->R st d->R (L.foldl G st) (L.foldl z d)
 | [],st,d,_,h=>h
 | x::L,st,d,E,h=>aaq G z L _ _ (λy I=>E y (fo _ I)) (E x (ig ..) st d h)
theorem ak5(E:∀st d k,R st d->t st k=t' d k)(p:Int)(y:∀k∈lj S p,∀st d,R st d->R (F st k) (F' d k))(st:σ)(d:τ)(h:R st d):R (ym S t F p st) (ym S t' F' p d):=by
 refine aaq _ _ _ _ _ (λk z st d h=>?_) h;unfold ke;rw[<-E st d k h];split
 . exact h
 . exact y k z st d h
theorem at7(J:∀st d k,R st d->t st k=t' d k)(z:Int):∀(L:List Int)(st:σ)(d:τ),(∀p∈L.takeWhile (λx=>decide (x≠z)),(∀st d,R st d->R (ad st p) (ad' d p))/\((aq S p).kind=3->∀k∈lj S p,∀st d,R st d->R (F st k) (F' d k)))->R st d->R (upW S t ad F z L st) (upW S t' ad' F' z L d)
 | [],st,d,_,h=>h
 | p::L,st,d,E,h=>by
  rw[upW,upW];by_cases y:p=z
  . rw[ao y,ao y];exact h
  . rw[ah y,ah y];rw[j6,ao (by simpa using y)]at E;refine at7 J z L _ _ (λq U=>E q (fo _ U)) ?_;obtain⟨I,O⟩:=E p (ig ..);unfold zu;split
    . rename_i Q;exact ak5 J p (O Q) _ _ (I _ _ h)
    . exact I _ _ h
theorem ajx(I:∀st d k,R st d->t st k=t' d k)(y:Int)(l:List Int)(z:∀x∈l,∀st d,R st d->R (F st x) (F' d x))
 (E:∀x∈l,∀p∈(wx S x).takeWhile (λx=>decide (x≠y)),(∀st d,R st d->R (ad st p) (ad' d p))/\((aq S p).kind=3->∀k∈lj S p,∀st d,R st d->R (F st k) (F' d k)))(st:σ)(d:τ)(h:R st d):R (al2 S t ad F l y st) (al2 S t' ad' F' l y d) :=
 aaq _ _ _ _ _ (λx J st d h=>at7 I y _ _ _ (E x J) h) (aaq _ _ _ _ _ z h)
end
def Abs(g:(Nat->Bool)->(Nat->Bool)):Prop:=(∀A,Le A (g A))/\∀A d,Le (g A) d->g d=d
theorem Le.refl(A:Nat->Bool):Le A A:=λ_ h=>h
theorem Le.trans{A B C:Nat->Bool}(h:Le A B)(k:Le B C):Le A C:=λx d=>k x (h x d)
theorem al8:Abs (λA=>A):=⟨λA=>Le.refl A,λ_ _ _=>rfl⟩
theorem afa(A:Nat->Bool)(s:Int):Le A (de A s):=λk h=>by simp[de,h]
theorem bb1{A:Nat->Bool}{s:Int}(h:∀k:Nat,(k:Int)=s->A k=true):de A s=A:=by
 funext k;unfold de;by_cases d:(k:Int)=s
 . simp[d,h k d]
 . simp[d]
theorem ag8(s:Int):Abs (λA=>de A s):=⟨λA=>afa A s,λA y h=>bb1 λk d=>h k (by simp[de,d])⟩
theorem aay{g h:(Nat->Bool)->(Nat->Bool)}(z:Abs g)(y:Abs h):Abs (λA=>h (g A)) :=
 ⟨λA=>(z.1 A).trans (y.1 _),λA d E=>by
  show h (g d)=d
  rw[z.2 A d ((y.1 _).trans E),y.2 (g A) d E]⟩
theorem ag7{α:Type}(G:(Nat->Bool)->α->(Nat->Bool)):∀(L:List α),(∀x∈L,Abs λA=>G A x)->Abs λA=>L.foldl G A
 | [],_=>al8
 | x::L,h=>aay (h x (ig ..)) (ag7 G L λy d=>h y (fo _ d))
theorem a2w{S:List St}{A B:Nat->Bool}(h:Le A B){k:Int}(y:g6 S A k=true):g6 S B k=true:=by unfold g6 at y ⊢;rw[iz]at y ⊢;obtain⟨x,z,d⟩:=y;simp only[bj]at d ⊢;exact⟨x,z,h x d.1,d.2⟩
theorem a9w{S:List St}{F:(Nat->Bool)->Int->(Nat->Bool)}{k:Int}(h:Abs λA=>F A k):Abs λA=>ke (g6 S) F A k:=by
 refine⟨λA=>?_,λA y d=>?_⟩
 . show Le A (ke (g6 S) F A k);unfold ke;split
   . exact Le.refl A
   . exact h.1 A
 . show ke (g6 S) F y k=y;have d:Le (ke (g6 S) F A k) y:=d;unfold ke at d ⊢;split at d
   . rename_i z;rw[ao (a2w d z)]
   . split
     . rfl
     . exact h.2 A y d
theorem atw{S:List St}{F:(Nat->Bool)->Int->(Nat->Bool)}(h:∀k,Abs λA=>F A k)(p:Int):Abs λA=>ym S (g6 S) F p A:=ag7 _ _ λk _=>a9w (h k)
theorem awk{S:List St}{F:(Nat->Bool)->Int->(Nat->Bool)}(h:∀k,Abs λA=>F A k)(p:Int):Abs λA=>zu S (g6 S) de F A p:=by
 unfold zu;split
 . exact aay (ag8 p) (atw h p)
 . exact ag8 p
theorem a59{S:List St}{F:(Nat->Bool)->Int->(Nat->Bool)}(h:∀k,Abs λA=>F A k)(d:Int):∀L:List Int,Abs λA=>upW S (g6 S) de F d L A
 | []=>al8
 | p::L=>by
  unfold upW;split
  . exact al8
  . exact aay (awk h p) (a59 h d L)
theorem a1c{S:List St}{F:(Nat->Bool)->Int->(Nat->Bool)}(h:∀k,Abs λA=>F A k)(d s:Int):Abs λA=>ld S (g6 S) de F d A s:=a59 h d _
theorem ayd{S:List St}{F:(Nat->Bool)->Int->(Nat->Bool)}(h:∀k,Abs λA=>F A k)(l:List Int)(d:Int):Abs λA=>al2 S (g6 S) de F l d A :=
 aay (g:=λA=>l.foldl F A) (h:=λA=>l.foldl (ld S (g6 S) de F d) A) (ag7 F l λk _=>h k) (ag7 _ l λk _=>a1c h d k)
theorem al9(S:List St)(H:List Nat):∀(f:Nat)(s:Int),Abs λA=>dB S H f A s
 | 0,s=>al8
 | f+1,s=>by
  unfold dB;split
  . exact al8
  . split
    . exact ayd (al9 S H f) _ _
    . split
      . exact aay (ag8 s) (ayd (al9 S H f) _ _)
      . split
        . exact aay (ag8 s) (atw (al9 S H f) _)
        . exact ag8 s
def rk(S:List St)(s:Int):Nat:=if ct (aq S s).kind=true then S.length+1 else ((S.length:Int)-s).toNat
def adj(S:List St)(H:List Nat):Prop:=∀s,c6 S s=true->ct (aq S s).kind=true->∀x∈za S H s,c6 S x=true/\ct (aq S x).kind=false
theorem ako{S:List St}{s:Int}(h:ct (aq S s).kind=false):rk S s=((S.length:Int)-s).toNat:=by unfold rk;rw[ah (by rw[h];simp)]
theorem aw5{S:List St}{s:Int}(h:ct (aq S s).kind=true):rk S s=S.length+1:=by unfold rk;rw[ao h]
theorem a3k{S:List St}{s x:Int}(d:ct (aq S s).kind=false)(y:ct (aq S x).kind=false)(h:jc S x s=true):rk S x<rk S s:=by rw[ako d,ako y];have:=lm h;have:=fj.1 this.2.2;omega
theorem a3j{S:List St}{x:Int}(d:c6 S x=true)(y:ct (aq S x).kind=false):rk S x<=S.length:=by rw[ako y];have:=fj.1 d;omega
theorem aop{S:List St}{x:Int}(y:c6 S x=true):rk S x<S.length+2:=by
 cases d:ct (aq S x).kind with
 | true=>rw[aw5 d];omega
 | false=>have:=a3j y d;omega
def ama(S:List St)(r:Nat)(d x:Int):Prop:=∀p∈(wx S x).takeWhile (λy=>decide (y≠d)),c6 S p=true/\ct (aq S p).kind=false/\∀k∈lj S p,c6 S k=true/\rk S k<r
theorem aj4{S:List St}(J:l1 S){x p:Int}(h:p∈wx S x):c6 S p=true/\ct (aq S p).kind=false/\jc S x p=true:=by
 have z:=a1w h;have E:=lm z;have U:c6 S p=true:=fj.2 ⟨E.1,by have:=fj.1 E.2.2;omega⟩;refine⟨U,?_,z⟩;have:∀(n:Nat)(a:Int),a.toNat<=n->jc S a p=true->∃b,lu S b=p:=by
  intro n
  induction n with
  | zero=>intro a O y;have:=lm y;omega
  | succ n V =>
   intro a O y
   obtain⟨I,d⟩:=(n7 _ _ _).1 y
   rcases d with d | d
   . exact⟨a,d⟩
   . have:=(n5 I).2.2
     exact V (lu S a) (by omega) d
 obtain⟨b,Q⟩:=this _ x (ai _) z;have:=J.bca b (by omega);rw[Q]at this;exact agn this
theorem zo{S:List St}(E:l1 S){p:Int}(O:c6 S p=true)(I:ct (aq S p).kind=false):∀k∈lj S p,c6 S k=true/\rk S k<rk S p/\rk S k<=S.length:=λk J=>by
 obtain⟨d,Q,y,U,z⟩:=E.aty (fj.1 O).1 J
 exact⟨d,a3k I y z,a3j d y⟩
theorem aj5{S:List St}(z:l1 S)(J x:Int)(r:Nat)(Q:S.length<r):ama S r J x:=λp I=>by
 obtain⟨d,y,O⟩:=aj4 z (List.takeWhile_subset _ I)
 exact⟨d,y,λk E=>⟨(zo z d y k E).1,by have:=(zo z d y k E).2.2;omega⟩⟩
theorem a65{S:List St}(E:l1 S){y x:Int}(Q:ct (aq S y).kind=false)(h:jc S x y=true):ama S (rk S y) y x:=λp J=>by
 obtain⟨z,d,U⟩:=aj4 E (List.takeWhile_subset _ J)
 have O:=ayt h p J
 exact⟨z,d,λk I=>⟨(zo E z d k I).1,by have:=(zo E z d k I).2.1;have:=a3k Q d O;omega⟩⟩
theorem acp{S:List St}(J:l1 S){H:List Nat}(I:adj S H){s:Int}(O:c6 S s=true)(y:ct (aq S s).kind=true)(z:Int):∀x∈za S H s,c6 S x=true/\rk S x<rk S s/\ama S (rk S s) z x:=λx Q=>by
 obtain⟨d,E⟩:=I s O y x Q
 rw[aw5 y]
 exact⟨d,by have:=a3j d E;omega,aj5 J z x _ (by omega)⟩
theorem acq{S:List St}(y:l1 S){s:Int}(U:c6 S s=true)(z:(aq S s).kind=2):∀x∈(aq S s).ip,c6 S x=true/\rk S x<rk S s/\ama S (rk S s) s x:=λx I=>by
 obtain⟨t,J,O,Q,d⟩:=y.bcb s U z
 rw[J]at I
 obtain rfl:=cf.1 I
 have E:=agn (.inl z)
 exact⟨O,a3k E Q d,a65 y E d⟩
theorem ama.two{σ τ:Type}{S:List St}{R:σ->τ->Prop}{ad:σ->Int->σ}{ad':τ->Int->τ}{F:σ->Int->σ}{F':τ->Int->τ}{r:Nat}{I x:Int}(h:ama S r I x)
 (U:∀p,c6 S p=true->ct (aq S p).kind=false->∀st d,R st d->R (ad st p) (ad' d p))(Q:∀k,c6 S k=true->rk S k<r->∀st d,R st d->R (F st k) (F' d k)) :
 ∀p∈(wx S x).takeWhile (λy=>decide (y≠I)),(∀st d,R st d->R (ad st p) (ad' d p))/\((aq S p).kind=3->∀k∈lj S p,∀st d,R st d->R (F st k) (F' d k)):=λp V=>by
 obtain⟨J,O,z⟩:=h p V
 exact⟨U p J O,λ_ k E=>Q k (z k E).1 (z k E).2⟩
theorem ax4{S:List St}(J:l1 S){H:List Nat}(U:adj S H):∀(f g:Nat)(s:Int),rk S s<f->rk S s<g->∀A,dB S H f A s=dB S H g A s
 | 0,_,_,h,_,_=>by omega
 | _+1,0,_,_,h,_=>by omega
 | f+1,g+1,s,Z,h2,A=>by
  rw[dB,dB];split
  . rfl
  . rename_i I;have I:c6 S s=true:=(by simpa using I);have E:∀k,c6 S k=true->rk S k<rk S s->∀st y:Nat->Bool,st=y->dB S H f st k=dB S H g y k:=λk _ O st y e=>by rw[e];exact ax4 J U f g k (by omega) (by omega) y
    have V:∀p,c6 S p=true->ct (aq S p).kind=false->∀st y:Nat->Bool,st=y->de st p=de y p:=λ_ _ _ _ _ e=>by rw[e]
    have Q:∀(st y:Nat->Bool)(k:Int),st=y->g6 S st k=g6 S y k:=λ_ _ _ e=>by rw[e]
    split
    . rename_i W;have d:=acp J U I W (aq S s).par;exact ajx (R:=λa b=>a=b) Q _ _ (λx z=>E x (d x z).1 (d x z).2.1) (λx z=>(d x z).2.2.two V E) _ _ rfl
    . rename_i W;split
      . rename_i O;have d:=acq J I O;exact ajx (R:=λa b=>a=b) Q _ _ (λx z=>E x (d x z).1 (d x z).2.1) (λx z=>(d x z).2.2.two V E) _ _ rfl
      . split
        . rename_i O;have d:=zo J I (agn (.inr O));exact ak5 (R:=λa b=>a=b) Q _ (λk Y=>E k (d k Y).1 (d k Y).2.1) _ _ rfl
        . rfl
def tf(S:List St)(A:Nat->Bool):Prop:=∀k,A k=true->ct (aq S (k:Int)).kind=false
def bdd(S:List St)(H:List Nat)(A:Nat->Bool)(x:Nat):Prop:=∀d,Le A d->dB S H (S.length+2) d (x:Int)=d
structure Inv (S:List St) (H:List Nat) (r:Nat) (st:Bs):Prop where
 plain:tf S st.a
 done:∀x,st.b x=true->rk S (x:Int)<r->bdd S H st.a x
structure sa (S:List St) (H:List Nat) (r:Nat) (b0:Nat->Bool) (st:Bs) (A:Nat->Bool):Prop where
 same:st.a=A
 inv:Inv S H r st
 grow:∀x,st.b x=true->b0 x=true\/rk S (x:Int)<r
theorem ay8{S:List St}{A:Nat->Bool}(h:tf S A)(k:Int):am3 S A k=g6 S A k:=by
 unfold am3 g6;congr 1;funext x;cases d:A x with
 | false=>rfl
 | true=>rw[h x d];simp
theorem aku{S:List St}{H:List Nat}{r:Nat}{y:Nat->Bool}(p:Int)(O:ct (aq S p).kind=false)(st:Bs)(A:Nat->Bool)(h:sa S H r y st A):sa S H r y (adB st p) (de A p):=by
 obtain⟨I,z,J⟩:=h;refine⟨by show de st.a p=_;rw[I],⟨λk d=>?_,λx V U E Q=>z.done x V U E ((afa _ _).trans Q)⟩,J⟩;have d:de st.a p k=true:=d;unfold de at d;simp only[im,bi]at d;rcases d with d | d
 . exact z.plain k d
 . rw[d];exact O
theorem sa.test{S:List St}{H:List Nat}{r:Nat}{d:Nat->Bool}(st:Bs)(A:Nat->Bool)(k:Int)(h:sa S H r d st A):tB S st k=g6 S A k:=by unfold tB;rw[ay8 h.inv.plain,h.same]
theorem a2y{S:List St}(Z:l1 S){H:List Nat}(hG:adj S H):∀(f r:Nat)(s:Int),c6 S s=true->rk S s<f->rk S s<r->∀(W:Nat->Bool)(st:Bs)(A:Nat->Bool),sa S H r W st A->sa S H r W (pB S H f st s) (dB S H f A s)
 | 0,_,_,_,h,_,_,_,_,_=>by omega
 | f+1,r,s,V,hf,hr,W,st,A,I=>by
  have hn:((s.toNat:Nat):Int)=s:=by have:=fj.1 V;omega
  have a1:∀A,dB S H (f+1) A s=dB S H (S.length+2) A s:=λA=>ax4 Z hG _ _ s hf (aop V) A
  cases hm:st.b s.toNat with
  | true =>
   have hd:=I.inv.done s.toNat hm (by rwa [hn])
   rw[pB,ao (.inr hm),a1,<-I.same]
   have:=hd st.a (Le.refl _)
   rw[hn]at this
   rw[this]
   exact⟨rfl,I.inv,I.grow⟩
  | false =>
   have a9:∀(O:Bs),(dB S H (f+1) A s=O.a)->sa S H (rk S s) (de st.b s) O O.a->sa S H r W O (dB S H (f+1) A s):=by
    intro O he hp
    refine⟨he.symm,⟨hp.inv.plain,λx z a0=>?_⟩,λx z=>?_⟩
    . by_cases a5:rk S (x:Int)<rk S s
      . exact hp.inv.done x z a5
      . have d:=hp.grow x z
        have d:de st.b s x=true:=by rcases d with d | d;exact d;omega
        unfold de at d
        simp only[im,bi]at d
        rcases d with d | d
        . intro y hl
          refine I.inv.done x d a0 y (Le.trans ?_ hl)
          rw[<-he,<-I.same]
          exact(al9 S H (f+1) s).1 _
        . intro y hl
          rw[d,<-a1]
          exact(al9 S H (f+1) s).2 A y (by show Le (dB S H (f+1) A s) y;rw[he];exact hl)
    . rcases hp.grow x z with d | d
      . unfold de at d
        simp only[im,bi]at d
        rcases d with d | d
        . exact I.grow x d
        . right;rw[d];exact hr
      . right;omega
   have a3:sa S H (rk S s) (de st.b s) ⟨st.a,de st.b s⟩ A:=by
    refine⟨I.same,⟨I.inv.plain,λx z a0=>?_⟩,λx z=>.inl z⟩
    have d:de st.b s x=true:=z
    unfold de at d
    simp only[im,bi]at d
    rcases d with d | d
    . exact I.inv.done x d (by omega)
    . rw[d]at a0;omega
   have ax:∀(E:Bs)(y:Nat->Bool)(k:Int),sa S H (rk S s) (de st.b s) E y->tB S E k=g6 S y k:=λE y k h=>sa.test E y k h
   have Y:∀k,c6 S k=true->rk S k<rk S s->∀(E:Bs)(y:Nat->Bool),sa S H (rk S s) (de st.b s) E y->sa S H (rk S s) (de st.b s) (pB S H f E k) (dB S H f y k) :=
    λk U a4 E y h=>a2y Z hG f (rk S s) k U (by omega) a4 _ E y h
   have ha:∀p,c6 S p=true->ct (aq S p).kind=false->∀(E:Bs)(y:Nat->Bool),sa S H (rk S s) (de st.b s) E y->sa S H (rk S s) (de st.b s) (adB E p) (de y p):=λp _ J E y h=>aku p J E y h
   have al:∀(O:Bs)(A1:Nat->Bool),sa S H (rk S s) (de st.b s) O A1->dB S H (f+1) A s=A1->sa S H r W O (dB S H (f+1) A s):=λO A1 h e=>a9 O (by rw[e,h.same]) ⟨rfl,h.inv,h.grow⟩
   have hc:¬(c6 S s=false\/st.b s.toNat=true):=by rw[V,hm];simp
   have am:¬c6 S s=false:=by rw[V];simp
   rw[pB,ah hc]
   by_cases J:ct (aq S s).kind=true
   . rw[ao J]
     have z:=acp Z hG V J (aq S s).par
     refine al _ _ (ajx (R:=sa S H (rk S s) (de st.b s)) ax _ _ (λx Q=>Y x (z x Q).1 (z x Q).2.1) (λx Q=>(z x Q).2.2.two ha Y) _ _ a3) ?_
     rw[dB,ah am,ao J]
   . rw[ah J]
     have av:sa S H (rk S s) (de st.b s) ⟨de st.a s,de st.b s⟩ (de A s):=aku s (by simpa using J) _ _ a3
     by_cases U:(aq S s).kind=2
     . rw[ao U]
       have z:=acq Z V U
       refine al _ _ (ajx (R:=sa S H (rk S s) (de st.b s)) ax _ _ (λx Q=>Y x (z x Q).1 (z x Q).2.1) (λx Q=>(z x Q).2.2.two ha Y) _ _ av) ?_
       rw[dB,ah am,ah J,ao U]
     . rw[ah U]
       by_cases ak:(aq S s).kind=3
       . rw[ao ak]
         have z:=zo Z V (agn (.inr ak))
         refine al _ _ (ak5 (R:=sa S H (rk S s) (de st.b s)) ax _ (λk a2=>Y k (z k a2).1 (z k a2).2.1) _ _ av) ?_
         rw[dB,ah am,ah J,ah U,ao ak]
       . rw[ah ak]
         refine al _ _ av ?_
         rw[dB,ah am,ah J,ah U,ah ak]
theorem a8d{S:List St}{H:List Nat}(f:Nat)(st:Bs){s:Int}(h:c6 S s=false):pB S H f st s=st:=by
 cases f with
 | zero=>rfl
 | succ f=>rw[pB,ao (.inl h)]
theorem ax3{S:List St}{H:List Nat}(f:Nat)(A:Nat->Bool){s:Int}(h:c6 S s=false):dB S H f A s=A:=by
 cases f with
 | zero=>rfl
 | succ f=>rw[dB,ao h]
theorem aqy{S:List St}(O:l1 S){H:List Nat}(U:adj S H)(E:Int)(l:List Int):sa S H (S.length+2) (λ_=>false) (ae1 S H E l) (agx S H E l):=by
 have J:∀k,∀(d:Bs)(y:Nat->Bool),sa S H (S.length+2) (λ_=>false) d y->sa S H (S.length+2) (λ_=>false) (pB S H (S.length+2) d k) (dB S H (S.length+2) y k):=λk d y h=>by
  cases z:c6 S k with
  | false=>rw[a8d _ _ z,ax3 _ _ z];exact h
  | true=>exact a2y O U _ _ k z (aop z) (aop z) _ d y h
 have W:∀(d:Bs)(y:Nat->Bool)(k:Int),sa S H (S.length+2) (λ_=>false) d y->tB S d k=g6 S y k:=λd y k h=>sa.test d y k h;have Q:sa S H (S.length+2) (λ_=>false) ⟨λ_=>false,λ_=>false⟩ (λ_=>false):=by
  refine⟨rfl,⟨λk z=>?_,λx I _=>?_⟩,λx I=>?_⟩
  . exact absurd z dr
  . exact absurd I dr
  . exact absurd I dr
 exact aaq (R:=sa S H (S.length+2) (λ_=>false)) (ld S (tB S) adB (pB S H (S.length+2)) E) (ld S (g6 S) de (dB S H (S.length+2)) E) (uu S H l) _ _
  (λx _ st d h=>at7 (R:=sa S H (S.length+2) (λ_=>false)) W E _ _ _ ((aj5 O E x (S.length+2) (by omega)).two (λp _ V st A h=>aku p V st A h) (λk _ _=>J k)) h)
  (aaq (R:=sa S H (S.length+2) (λ_=>false)) (pB S H (S.length+2)) (dB S H (S.length+2)) l _ _ (λx _=>J x) Q)
theorem akc{S:List St}(z:l1 S){H:List Nat}(y:adj S H)(d:Int)(l:List Int):(ae1 S H d l).a=agx S H d l:=(aqy z y d l).same
theorem am4{S:List St}(z:l1 S){H:List Nat}(y:adj S H)(d:Int)(l:List Int):tf S (ae1 S H d l).a:=(aqy z y d l).inv.plain
end Go.Proofs.YtpekhdfmmkmjaaaGreatDoor
