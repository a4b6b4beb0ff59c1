/- A session in a box, as a law's loop keeps it. -/
import Derived.Test.YtgofpbdbeegoeaaGreatDoorFUUup
import Derived.Test.YtgofpbdbeegoeaaGreatDoorFUCarg
namespace Go.Proofs.YtgofpbdbeegoeaaGreatDoor
open Go.ChangeShapes Go.WideShapes Go.ChangeAt Go.RowKit
set_option linter.unusedVariables false

structure BxAt (B:Nat) (w:World) (r:Nat) (C:Ch) (vh ve vi vo:Value) (Y:Se):Prop where
 blk:Blk w r 31 #[.int .u32 ((bset Y.a C.sts.length:Nat):Int),vh,ve,vi,.int .i64 Y.st]
 rows:MwAt B w vh ve vi vo Y
theorem BxAt.below {B r:Nat} {w w':World} {C:Ch} {vh ve vi vo:Value} {Y:Se} (h:BxAt B w r C vh ve vi vo Y) (hb:Below w.heap.size w w'):BxAt B w' r C vh ve vi vo Y:=⟨h.blk.below hb h.blk.lt,h.rows.below hb⟩
theorem BxAt.run {B r:Nat} {w:World} {C:Ch} {vh ve vi vo:Value} {Y:Se} (h:BxAt B w r C vh ve vi vo Y):RunAt w C.sts.length (.agg #[.int .u32 ((bset Y.a C.sts.length:Nat):Int),vh,ve,vi,.int .i64 Y.st]) Y:=h.rows.run
theorem BxAt.put {B r:Nat} {w:World} {C:Ch} {vh ve vi vo uh ue ui uo:Value} {Y Z:Se} (h:BxAt B w r C vh ve vi vo Y) (hz:MwAt B w uh ue ui uo Z) :
 BxAt B (set5 w r 0 (.int .u32 ((bset Z.a C.sts.length:Nat):Int)) uh ue ui (.int .i64 Z.st)) r C uh ue ui uo Z:=by
 have hb:=h.blk
 have k1:=hb.set_ 0 (.int .u32 ((bset Z.a C.sts.length:Nat):Int))
 have k2:=k1.set_ 1 uh
 have k3:=k2.set_ 2 ue
 have k4:=k3.set_ 3 ui
 exact ⟨k4.set_ 4 (.int .i64 Z.st),((((hz.apart hb (by decide) (by decide) (by decide) (by decide) 0 _).apart k1 (by decide) (by decide) (by decide) (by decide) 1 _).apart k2 (by decide) (by decide) (by decide) (by decide) 2 _).apart k3 (by decide) (by decide) (by decide) (by decide) 3 _).apart k4 (by decide) (by decide) (by decide) (by decide) 4 _⟩
theorem below_set5 {B r:Nat} {w w':World} (h:Below B w w') (hr:B≤r) (a0 a1 a2 a3 a4:Value):Below B w (set5 w' r 0 a0 a1 a2 a3 a4) :=
 ((((h.setCell (p:=⟨r,0,none⟩) hr _).setCell (p:=⟨r,1,none⟩) hr _).setCell (p:=⟨r,2,none⟩) hr _).setCell (p:=⟨r,3,none⟩) hr _).setCell (p:=⟨r,4,none⟩) hr _
theorem MwAt.else5 {B q:Nat} {w:World} {vh ve vi vo:Value} {Y:Se} {cs:Array Value} (h:MwAt B w vh ve vi vo Y) (hb:Blk w q 31 cs) (a0 a1 a2 a3 a4:Value):MwAt B (set5 w q 0 a0 a1 a2 a3 a4) vh ve vi vo Y:=by
 have k1:=hb.set_ 0 a0
 have k2:=k1.set_ 1 a1
 have k3:=k2.set_ 2 a2
 exact ((((h.apart hb (by decide) (by decide) (by decide) (by decide) 0 a0).apart k1 (by decide) (by decide) (by decide) (by decide) 1 a1).apart k2 (by decide) (by decide) (by decide) (by decide) 2 a2).apart k3 (by decide) (by decide) (by decide) (by decide) 3 a3).apart (k3.set_ 3 a3) (by decide) (by decide) (by decide) (by decide) 4 a4
theorem BxAt.else5 {B q r:Nat} {w:World} {C:Ch} {vh ve vi vo:Value} {Y:Se} {cs:Array Value} (h:BxAt B w r C vh ve vi vo Y) (hb:Blk w q 31 cs) (hne:r ≠ q) (a0 a1 a2 a3 a4:Value):BxAt B (set5 w q 0 a0 a1 a2 a3 a4) r C vh ve vi vo Y :=
 ⟨((((h.blk.set_ne hne 0 a0).set_ne hne 1 a1).set_ne hne 2 a2).set_ne hne 3 a3).set_ne hne 4 a4,h.rows.else5 hb a0 a1 a2 a3 a4⟩
def Oka (C:Ch) (Y:Se):Prop:=Okw C Y∧(Y.st=1→Still C Y)
theorem Oka.take {C:Ch} {Y:Se} (hC:Chk C) (h:Oka C Y) (ev:Int):Oka C (takeS C ev Y.hush):=take_ok hC ev (okw_hush h.1) (still_hush h.2)
end Go.Proofs.YtgofpbdbeegoeaaGreatDoor
