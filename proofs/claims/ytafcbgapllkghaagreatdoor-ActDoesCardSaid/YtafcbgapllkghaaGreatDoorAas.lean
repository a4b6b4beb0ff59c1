/- The contracts of act's assign and doWith. -/
import Derived.Test.YtafcbgapllkghaaGreatDoorAcl
import Derived.Test.YtafcbgapllkghaaGreatDoorHref
namespace Go.Proofs.YtafcbgapllkghaaGreatDoor
open Go.ChangeShapes Go.WideShapes Go.ChangeAt Go.RowKit
set_option linter.unusedVariables false

/-- what one deed leaves: whether it could be done, and what has come of all -/
def DidPost (B g : Nat) (b : Bool) (X : Ds) (w : World) (e : Ending) (w' : World) : Prop := e = .returned (.bool b) ∧ Below B w w' ∧ ∃ ve vo vi, DsAt B g w' ve vo vi X
theorem DidPost.of {B g : Nat} {b b' : Bool} {X : Ds} {w w' : World} {e : Ending} {ve vo vi : Value} (he : e = .returned (.bool b')) (hbb : b' = b) (hb : Below B w w') (h : DsAt B g w' ve vo vi X) : DidPost B g b X w e w' := ⟨hbb ▸ he, hb, _, _, _, h⟩
set_option maxHeartbeats 2000000 in
set_option maxRecDepth 100000 in
theorem assign_no (B g : Nat) (ve vo vi : Value) (X : Ds) (p n : Int) (w : World) (hD : DsAt B g w ve vo vi X) (hel : X.env.length ≤ 1000) (hp : ¬ (0 ≤ p ∧ p < (X.env.length : Int))) :
    Calls Tryz.prog 20 #[.pointer (some ⟨g, 0, none⟩), .int .i64 p, .int .i64 n] w (DidPost B g false X w) := by
  have HD := Lib.hid hD
  obtain ⟨A, cap, rfl⟩ := hD.env.slice
  obtain ⟨⟨c0, c1, c2⟩, f0, f1, f2⟩ := hD.blk.facts3
  clear hD
  by_cases h0 : p < 0
  · clear hp
    go_enter Tryz.func20, Tryz.ntmps20
    go_wp2_with fail
    go_ret
    exact .of rfl rfl (Below.refl _ _) HD.out
  · have h1 : (X.env.length : Int) ≤ p := by omega
    clear hp
    go_enter Tryz.func20, Tryz.ntmps20
    go_wp2_with fail
    go_ret
    exact .of rfl rfl (Below.refl _ _) HD.out
set_option maxHeartbeats 2000000 in
set_option maxRecDepth 100000 in
theorem assign_yes (B g : Nat) (ve vo vi : Value) (X : Ds) (k : Nat) (n : Int) (w : World) (hD : DsAt B g w ve vo vi X) (hel : X.env.length ≤ 1000) (hk : k < X.env.length) :
    Calls Tryz.prog 20 #[.pointer (some ⟨g, 0, none⟩), .int .i64 (k : Int), .int .i64 n] w (DidPost B g true ⟨X.env.set k n, X.out, X.ins⟩ w) := by
  obtain ⟨b, cap, cur, rfl, hcap, hB, hblk, cb, fb⟩ := hD.env.place hk
  have HP := Lib.hid (hD.put (n := n) hblk hk)
  have HB := Lib.hid ((Below.refl B w).setCell (p := ⟨b, k, none⟩) hB (.int .i64 n))
  obtain ⟨⟨c0, c1, c2⟩, f0, f1, f2⟩ := hD.blk.facts3
  have h0 : ¬ ((k : Int) < 0) := by omega
  have h1 : ¬ ((X.env.length : Int) ≤ (k : Int)) := by omega
  have hblt : b < w.heap.size := hblk.lt
  generalize X.env[k] = old at *
  clear hD hblk hB
  go_enter Tryz.func20, Tryz.ntmps20
  go_wp2_with fail
  go_ret
  exact .of rfl rfl HB.out HP.out
theorem assign_any (B g : Nat) (ve vo vi : Value) (X : Ds) (a : Ac) (n : Int) (w : World) (hD : DsAt B g w ve vo vi X) (hel : X.env.length ≤ 1000) (hk : a.kind = 1) :
    Calls Tryz.prog 20 #[.pointer (some ⟨g, 0, none⟩), .int .i64 a.n, .int .i64 n] w (DidPost B g (doK a n X).isSome ((doK a n X).getD X) w) := by
  unfold doK
  rw [if_pos hk]
  by_cases hp : 0 ≤ a.n ∧ a.n < (X.env.length : Int)
  · rw [if_pos hp]
    have := assign_yes B g ve vo vi X a.n.toNat n w hD hel (by omega)
    rwa [Int.toNat_of_nonneg hp.1] at this
  · rw [if_neg hp]
    exact assign_no B g ve vo vi X a.n n w hD hel hp
end Go.Proofs.YtafcbgapllkghaaGreatDoor
