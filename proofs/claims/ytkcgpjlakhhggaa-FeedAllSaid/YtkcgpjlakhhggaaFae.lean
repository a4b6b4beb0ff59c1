/- (*Feed).Add: each reader's part is changed. -/
import Derived.Test.YtkcgpjlakhhggaaFaf
import Derived.StillTailTactics
namespace Go.Proofs.Ytkcgpjlakhhggaa
open Go.ChangeShapes Go.WideShapes Go.ChangeAt Go.RowKit
set_option linter.unusedVariables false

def rds (us : List (Value × Rd)) : List Rd := us.map fun u => u.2
theorem rds_len (us : List (Value × Rd)) : (rds us).length = us.length := by simp [rds]
theorem rds_get {us : List (Value × Rd)} {i : Nat} {u : Value × Rd} (h : us[i]? = some u) : (rds us)[i]? = some u.2 := by simp [rds, h]
theorem rds_set (us : List (Value × Rd)) (i : Nat) (u : Value × Rd) : rds (us.set i u) = (rds us).set i u.2 := by unfold rds; rw [List.map_set]
/-- the first i have it already -/
def half (f : Rd → Rd) (R : List Rd) (i : Nat) : List Rd := (R.take i).map f ++ R.drop i
theorem half_step {f : Rd → Rd} {R : List Rd} {i : Nat} {r : Rd} (h : R[i]? = some r) : (half f R i).set i (f r) = half f R (i + 1) := by
  have hl := (List.getElem?_eq_some_iff.1 h).1
  unfold half
  rw [List.take_add_one, h, List.set_append_right _ _ (by simp; omega), List.drop_eq_getElem_cons hl]
  have e : i - ((R.take i).map f).length = 0 := by simp; omega
  rw [e, List.set_cons_zero]
  simp
theorem half_get {f : Rd → Rd} {R : List Rd} {i : Nat} : (half f R i)[i]? = R[i]? := by
  unfold half
  by_cases hi : i ≤ R.length
  · rw [List.getElem?_append_right (by simp; omega)]
    have e : i - ((R.take i).map f).length = 0 := by simp; omega
    rw [e, List.getElem?_drop, Nat.add_zero]
  · rw [List.getElem?_eq_none (by simp; omega), List.getElem?_eq_none (by omega)]
theorem half_len {f : Rd → Rd} {R : List Rd} {i : Nat} : (half f R i).length = R.length := by unfold half; simp; omega
theorem half_all {f : Rd → Rd} {R : List Rd} : half f R R.length = R.map f := by unfold half; simp
theorem half_zero {f : Rd → Rd} {R : List Rd} : half f R 0 = R := by unfold half; simp
theorem add1_at {B g room h cap n i : Nat} {us : List (Value × Rd)} {u : Value × Rd} {x : Int} {w : World} (hF : FeAt B w g room (.slice (some ⟨h, 0, none⟩) n cap) us) (hi : us[i]? = some u) (hroom1 : 1 ≤ room) (hroom : room ≤ 100) (hk : u.2.kept.length ≤ room) (hlost : u.2.lost ≤ 1000000) :
    Calls Try.prog 12 #[.pointer (some ⟨h, i * 2, none⟩), .int .i64 x, .int .i64 (room : Int)] w fun e w' => e = .returned (.tuple #[]) ∧ ∃ us', rds us' = (rds us).set i (addR room x u.2) ∧ us'.length = us.length ∧ FeAt B w' g room (.slice (some ⟨h, 0, none⟩) n cap) us' ∧
      KB (Own g (.slice (some ⟨h, 0, none⟩) n cap) us) w w' ∧ ∀ b, Own g (.slice (some ⟨h, 0, none⟩) n cap) us' b → Own g (.slice (some ⟨h, 0, none⟩) n cap) us b ∨ w.heap.size ≤ b := by
  obtain ⟨cur, hBh, hn, hcb, hc1, hc2, hc3, hc4⟩ := cells_of_own hF.row
  obtain ⟨d0, d1⟩ := hc4 i u hi
  refine (add1_any B h (i * 2) room u x cur w hcb d0 d1 (hF.kept u (List.mem_of_getElem? hi)) hroom1 hroom hk (Nat.le_of_lt (Nat.lt_of_le_of_lt hF.Bg hF.blk.lt)) hlost).mono ?_
  rintro e w' ⟨rfl, v', h1, h2, h3, h4⟩
  obtain ⟨r1, r2, r3⟩ := hF.put (u' := (v', addR room x u.2)) hi hcb h1 h2 h3 h4
  exact ⟨rfl, _, rds_set _ _ _, by simp, r1, r2, r3⟩
def AddPost (B g room : Nat) (rv : Value) (us : List (Value × Rd)) (x : Int) (w : World) (e : Ending) (w' : World) : Prop := e = .returned (.tuple #[]) ∧ ∃ us', rds us' = (rds us).map (addR room x) ∧ us'.length = us.length ∧ FeAt B w' g room rv us' ∧
  KB (Own g rv us) w w' ∧ ∀ b, Own g rv us' b → Own g rv us b ∨ w.heap.size ≤ b
def Fit (room : Nat) (R : List Rd) : Prop := R.length ≤ 8 ∧ ∀ r ∈ R, r.kept.length ≤ room ∧ r.lost ≤ 1000000
theorem KB.more {O O' : Nat → Prop} {a b c : World} (h : KB O a b) (k : KB O' b c) (ho : ∀ x, O' x → O x ∨ a.heap.size ≤ x) : KB O a c :=
  ⟨k.os.trans h.os, k.tape.trans h.tape, k.output.trans h.output, Nat.le_trans h.size k.size, fun i hi hn => (k.block i (Nat.lt_of_lt_of_le hi h.size) (fun hc => by
    rcases ho i hc with h1 | h1
    · exact hn h1
    · omega)).trans (h.block i hi hn)⟩
set_option maxHeartbeats 2000000 in
set_option maxRecDepth 100000 in
theorem add_some (B g room h cap : Nat) (us : List (Value × Rd)) (x : Int) (w : World) (hF : FeAt B w g room (.slice (some ⟨h, 0, none⟩) us.length cap) us) (hR : Fit room (rds us)) (hroom1 : 1 ≤ room) (hroom : room ≤ 100) :
    Calls Try.prog 8 #[.pointer (some ⟨g, 0, none⟩), .int .i64 x] w fun e w' => AddPost B g room (.slice (some ⟨h, 0, none⟩) us.length cap) us x w e w' := by
  have c1 := hF.c1
  obtain ⟨N, hN⟩ : ∃ N, N = us.length := ⟨_, rfl⟩
  have HN := Lib.hid hN
  have hN8 : N ≤ 8 := by have := hR.1; rw [rds_len] at this; omega
  rw [← hN] at hF c1 ⊢
  have HF := Lib.hid hF
  have HR := Lib.hid hR
  clear hF hR hN
  go_enter Try.func8, Try.ntmps8
  go_wp2_with fail
  go_loopg [10] N (fun kx s10 wr => ∃ (i : Nat) (us' : List (Value × Rd)), s10 = .int .i64 (i : Int) ∧ i ≤ N ∧ N - i ≤ kx ∧ Hid (FeAt B wr g room (.slice (some ⟨h, 0, none⟩) N cap) us') ∧ Hid (rds us' = half (addR room x) (rds us) i ∧ us'.length = us.length) ∧ Hid (KB (Own g (.slice (some ⟨h, 0, none⟩) N cap) us) w wr) ∧ Hid (∀ b, Own g (.slice (some ⟨h, 0, none⟩) N cap) us' b → Own g (.slice (some ⟨h, 0, none⟩) N cap) us b ∨ w.heap.size ≤ b))
  case atStart => exact ⟨0, us, rfl, Nat.zero_le _, by omega, HF, Lib.hid ⟨half_zero.symm, rfl⟩, Lib.hid (KB.refl _ _), Lib.hid fun b hb => .inl hb⟩
  case round =>
    obtain ⟨i, us', hs, hi, hkx, HG, HH, HK, HO⟩ := hrel
    subst hs
    obtain ⟨wi, rfl⟩ : ∃ W : World, W = wr := ⟨_, rfl⟩
    by_cases hlt : i < N
    · have hltz : (i : Int) < (N : Int) := by omega
      have hl' : us'.length = N := by rw [HH.out.2, HN.out]
      have hx := List.getElem?_eq_getElem (show i < us'.length by omega)
      generalize us'[i] = u at hx
      have hru : (rds us)[i]? = some u.2 := by rw [← half_get (f := addR room x), ← HH.out.1]; exact rds_get hx
      have hfit := HR.out.2 u.2 (List.mem_of_getElem? hru)
      have g0 := HG.out.c0
      have g1 := HG.out.c1
      have HC := Lib.hid (add1_at (x := x) (HG.out.below ((Below.refl _ _).drew)) hx hroom1 hroom hfit.1 hfit.2)
      have wk1 : IntKind.i64.wrap ((i : Int) + 1) = (i : Int) + 1 := by rw [IntKind.wrap_i64]; omega
      have HRU := Lib.hid hru
      clear hx hru hfit hl'
      go_wp2_with fail
      go_still_tail 11, (by kernel_rfl)
      change wpList _ _ _ _ _ wi.drew
      go_wp2_with fail
      refine HC.out.mono ?_
      rintro e w1 ⟨rfl, us1, hr1, hl1, hF1, hk1, ho1⟩
      have HF1 := Lib.hid hF1
      have HH1 : Hid (rds us1 = half (addR room x) (rds us) (i + 1) ∧ us1.length = us.length) := Lib.hid ⟨by rw [hr1, HH.out.1]; exact half_step HRU.out, by rw [hl1]; exact HH.out.2⟩
      have HK1 : Hid (KB (Own g (.slice (some ⟨h, 0, none⟩) N cap) us) w w1) := Lib.hid (HK.out.more (KB.trans (KB.of_below ((Below.refl _ _).drew)) hk1) HO.out)
      have HO1 : Hid (∀ b, Own g (.slice (some ⟨h, 0, none⟩) N cap) us1 b → Own g (.slice (some ⟨h, 0, none⟩) N cap) us b ∨ w.heap.size ≤ b) := Lib.hid fun b hb => by
        rcases ho1 b hb with h1 | h1
        · exact HO.out b h1
        · have h2 : wi.heap.size ≤ b := h1
          have := HK.out.size
          exact .inr (by omega)
      clear hr1 hl1 hF1 hk1 ho1 HC g0 g1
      go_wp2_with fail
      go_roundg (N - (i + 1))
      case measure => omega
      case rel => exact ⟨i + 1, us1, by go_num, by omega, by omega, HF1, HH1, HK1, HO1⟩
    · have hltz : ¬ (i : Int) < (N : Int) := by omega
      obtain rfl : i = N := by omega
      go_wp2_with fail
      go_end0
      refine ⟨rfl, us', ?_, HH.out.2, HG.out, HK.out, HO.out⟩
      rw [HH.out.1, HN.out, ← rds_len, half_all]
theorem add_none (B g room : Nat) (x : Int) (w : World) (hF : FeAt B w g room (.slice none 0 0) []) :
    Calls Try.prog 8 #[.pointer (some ⟨g, 0, none⟩), .int .i64 x] w fun e w' => AddPost B g room (.slice none 0 0) [] x w e w' := by
  have c1 := hF.c1
  have HF := Lib.hid hF
  clear hF
  go_enter Try.func8, Try.ntmps8
  go_wp2_with fail
  go_loopg [10] 0 (fun kx s10 wr => s10 = .int .i64 0 ∧ wr = w)
  case atStart => exact ⟨rfl, rfl⟩
  case round =>
    obtain ⟨hs, hw⟩ := hrel
    subst hs
    subst hw
    go_wp2_with fail
    go_end0
    exact ⟨rfl, [], rfl, rfl, HF.out, KB.refl _ _, fun b hb => .inl hb⟩
theorem add_any (B g room : Nat) (rv : Value) (us : List (Value × Rd)) (x : Int) (w : World) (hF : FeAt B w g room rv us) (hR : Fit room (rds us)) (hroom1 : 1 ≤ room) (hroom : room ≤ 100) :
    Calls Try.prog 8 #[.pointer (some ⟨g, 0, none⟩), .int .i64 x] w fun e w' => AddPost B g room rv us x w e w' := by
  rcases hF.row.2 with ⟨rfl, h0⟩ | ⟨h, cap, cur, rfl, _⟩
  · rw [List.eq_nil_of_length_eq_zero h0] at hF ⊢
    exact add_none B g room x w hF
  · exact add_some B g room h cap us x w hF hR hroom1 hroom
end Go.Proofs.Ytkcgpjlakhhggaa
