/- The contract of parse's reader's row: one is read and, as long as a token of these Kinds stands between, one more. -/
import Derived.Test.YtmbmijhfoncncaaGreatDoorPop
import Derived.Deep.LoopGhost
namespace Go.Proofs.YtmbmijhfoncncaaGreatDoor
open Go.ChangeShapes Go.WideShapes Go.ChangeAt Go.RowKit
set_option linter.unusedVariables false

theorem IntsAt.kept {g b : Nat} {v v' : Value} {w w' : World} {xs : List Int} (h : IntsAt w b xs) (hk : Kept g v w w' v') (hb : b < w.heap.size) (hg : b ≠ g) (hv : v.ownBlock ≠ some b) : IntsAt w' b xs := fun i x hx =>
  (World.cell?_of_block (a := ⟨b, i, none⟩) (w := w) (hk.block b hb hg hv)).trans (h i x hx)
theorem IntsAt.drewN {w : World} {b : Nat} {xs : List Int} (h : IntsAt w b xs) (n : Nat) : IntsAt (w.drewN n) b xs := h
theorem ToksU.drewN {g : Nat} {w : World} {v : Value} {ts : List Tk} (h : ToksU g w v ts) (n : Nat) : ToksU g (w.drewN n) v ts := h
def RowRel (ts : List Tk) (g : Nat) (vin : Value) (lv : Nat) (R : Res) (v : Value) (w : World) (N gk : Nat) (t : Value) (wr : World) : Prop :=
  (∃ (k : Nat) (o : List Tk) (v1 : Value), t = .bool true ∧ gk ≤ N ∧ rd ts gk (10 + lv) k o = some R ∧ k ≤ ts.length ∧ o.length ≤ k ∧ Kept g v w wr v1 ∧ RSt g vin wr k v1 o) ∨
  (∃ (k : Nat) (o : List Tk) (v1 : Value), t = .bool false ∧ R = .bad k ∧ Kept g v w wr v1 ∧ RSt g vin wr k v1 o)
theorem row_rel_of {ts : List Tk} {g : Nat} {vin : Value} {lv : Nat} {R R1 : Res} {v v0 : Value} {w w0 : World} {N gk : Nat} {e : Ending} {w1 : World} {k0 : Nat} {o0 : List Tk}
    (hK : Kept g v w w0 v0) (h : RPost g vin R1 v0 w0 e w1) (hN : gk ≤ N) (hf : Fits ts k0 o0 R1) (hk : o0.length ≤ k0) (hR : thenR (some R1) (fun k o => rd ts gk (10 + lv) k o) = some R) : ∃ t, e = .returned t ∧ RowRel ts g vin lv R v w N gk t w1 := by
  cases R1 with
  | ok k o => obtain ⟨rfl, v1, h1, h2⟩ := h; unfold Fits at hf; exact ⟨_, rfl, .inl ⟨k, o, v1, rfl, hN, hR, by omega, by omega, hK.trans h1, h2⟩⟩
  | bad k => obtain ⟨rfl, v1, o, h1, h2⟩ := h; injection hR with hR; exact ⟨_, rfl, .inr ⟨k, o, v1, rfl, hR.symm, hK.trans h1, h2⟩⟩
theorem op_fits {ts : List Tk} {k : Nat} {o : List Tk} {x : Tk} {R : Res} {r : Option Res} (hr : ∀ R1, r = some R1 → Fits ts (k + 1) o R1) (h : thenR r (fun k o => some (.ok k (o ++ [x]))) = some R) : Fits ts k o R := by
  rcases thenR_some h with ⟨k', a, rfl⟩ | ⟨k', o', a, c⟩
  · have := hr _ a; unfold Fits at this ⊢; omega
  · have := hr _ a; injection c with c; subst c; unfold Fits at this ⊢; simp only [List.length_append, List.length_cons, List.length_nil]; omega
/-- what an operator comes to, and what follows -/
theorem op_then {r : Option Res} {x : Tk} {f : Nat → List Tk → Option Res} {R : Res} (h : thenR r (fun k o => f k (o ++ [x])) = some R) : ∃ R2, thenR r (fun k o => some (.ok k (o ++ [x]))) = some R2 ∧ thenR (some R2) f = some R := by
  rcases thenR_some h with ⟨k', rfl, rfl⟩ | ⟨k', o', rfl, c⟩
  · exact ⟨_, rfl, rfl⟩
  · exact ⟨_, rfl, c⟩

set_option maxHeartbeats 2000000 in
set_option maxRecDepth 100000 in
theorem row_any (ts : List Tk) (g F n lv k b cap : Nat) (vin v : Value) (out : List Tk) (xs : List Int) (R : Res) (w : World) (h1 : 1 ≤ lv) (h6 : lv < 6) (h3 : lv ≠ 3) (hF : ∀ m, m ≤ n → Reads ts g vin m (lv + 1) F) (hE : Enters F)
    (hxs : ∀ x, hasB xs x = decide (lvl x = lv)) (hxl : xs.length ≤ 3) (hX : IntsAt w b xs) (hb : b < w.heap.size) (hbg : b ≠ g) (hbv : v.ownBlock ≠ some b)
    (hR : rd ts (n + 1) lv k out = some R) (hk : k ≤ ts.length) (hl : ts.length ≤ 1000) (ho : out.length ≤ k) (hT : ToksU g w vin ts) (hS : RSt g vin w k v out) :
    Calls Tryz.prog 67 #[.pointer (some ⟨g, 0, none⟩), .func (.func F) #[.pointer (some ⟨g, 0, none⟩)] #[], .slice (some ⟨b, 0, none⟩) xs.length cap] w (RPost g vin R v w) := by
  have HF := Lib.hid hF
  have HE := Lib.hid hE
  have HXS := Lib.hid hxs
  have HX := Lib.hid hX
  have HT := Lib.hid hT
  have HS := Lib.hid hS
  have HBV := Lib.hid hbv
  have HBG := Lib.hid hbg
  rw [rd_row n lv out h6 h3] at hR
  obtain ⟨R1, hR1, hR2⟩ : ∃ R1, rd ts n (lv + 1) k out = some R1 ∧ thenR (some R1) (fun k o => rd ts n (10 + lv) k o) = some R := by
    rcases thenR_some hR with ⟨k', a, c⟩ | ⟨k', o', a, c⟩
    · exact ⟨_, a, by subst c; rfl⟩
    · exact ⟨_, a, c⟩
  have HR1 := Lib.hid hR1
  have HR2 := Lib.hid hR2
  have HFI := Lib.hid (rd_fits ts n (lv + 1) k out R1 hR1 hk)
  clear hF hxs hX hT hS hR hR1 hR2 hbv hbg
  unfold Enters at hE
  go_enter Tryz.func67, Tryz.ntmps67
  go_wp2_with fail
  refine (HF.out n (Nat.le_refl _) k out R1 v w HR1.out hk ho HT.out HS.out).mono ?_
  intro e w1 hp
  obtain ⟨t, rfl, hrel⟩ := row_rel_of (N := n) (Kept.refl g v w) hp (Nat.le_refl n) HFI.out ho HR2.out
  have HREL := Lib.hid hrel
  clear hp hrel
  go_wp2_with fail
  go_loopg [7] n (fun gk t wr => RowRel ts g vin lv R v w n gk t wr)
  case atStart => exact HREL.out
  case round =>
    clear HREL HFI HR1 HR2
    rcases hrel with ⟨k1, o1, v1, rfl, hgk, hr, hk1, ho1, hK, hS1⟩ | ⟨k1, o1, v1, rfl, rfl, hK, hS1⟩
    · obtain ⟨m, rfl⟩ : ∃ m, gk = m + 1 := by
        cases gk with
        | zero => rw [rd] at hr; cases hr
        | succ m => exact ⟨m, rfl⟩
      have HK := Lib.hid hK
      have HS1 := Lib.hid hS1
      have HT1 := Lib.hid (HT.out.below (HS.out.below hK))
      have HX1 := Lib.hid (HX.out.kept hK hb HBG.out HBV.out)
      clear hK hS1
      by_cases hc : lvl (knd ts k1) = lv
      · have hlt : k1 < ts.length := lvl_lt (ts := ts) (k := k1) (by omega)
        have hh : hasB xs (knd ts k1) = true := by rw [HXS.out, hc]; simp
        rw [rd_rest m lv o1 h1 hc] at hr
        obtain ⟨R2, hr2, hr3⟩ := op_then (f := fun k o => rd ts m (10 + lv) k o) hr
        have HR2 := Lib.hid hr2
        have HR3 := Lib.hid hr3
        have HFI := Lib.hid (op_fits (k := k1) (o := o1) (fun R1 h => rd_fits ts m (lv + 1) (k1 + 1) o1 R1 h (by omega)) hr2)
        clear hr hc hr2 hr3
        go_wp2_with fail
        refine (kind_any ts g k1 vin v1 _ o1 HT1.out HS1.out hk1 (by omega)).mono ?_
        rintro e w2 ⟨rfl, a, rfl⟩
        go_wp2_with fail
        refine (contains_any xs b cap _ _ (HX1.out.drewN a) (by omega)).mono ?_
        rintro e w2 ⟨rfl, rfl⟩
        rw [hh]
        go_wp2_with fail
        refine (kind_any ts g k1 vin v1 _ o1 (HT1.out.drewN a) (HS1.out.drewN a) hk1 (by omega)).mono ?_
        rintro e w2 ⟨rfl, c, rfl⟩
        go_wp2_with fail
        refine (operator_any ts g F m (lv + 1) k1 _ vin v1 o1 R2 _ (HF.out m (by omega)) HE.out hlt hl ho1 (HT1.out.drewN (a + c)) (HS1.out.drewN (a + c)) HR2.out).mono ?_
        intro e w3 hp
        obtain ⟨t, rfl, hrel⟩ := row_rel_of (N := n) (HK.out.drewN (a + c)) hp (show m ≤ n by omega) HFI.out ho1 HR3.out
        have HREL := Lib.hid hrel
        clear hp hrel
        go_wp2_with fail
        go_roundg m
        case measure => omega
        case rel => exact HREL.out
      · have hh : hasB xs (knd ts k1) = false := by rw [HXS.out]; simpa using hc
        rw [rd_done m lv o1 hc] at hr
        injection hr with hr
        subst hr
        clear hc
        go_wp2_with fail
        refine (kind_any ts g k1 vin v1 _ o1 HT1.out HS1.out hk1 (by omega)).mono ?_
        rintro e w2 ⟨rfl, a, rfl⟩
        go_wp2_with fail
        refine (contains_any xs b cap _ _ (HX1.out.drewN a) (by omega)).mono ?_
        rintro e w2 ⟨rfl, rfl⟩
        rw [hh]
        go_wp2_with fail
        go_ret
        exact ⟨rfl, _, HK.out.drewN a, HS1.out.drewN a⟩
    · have HK := Lib.hid hK
      have HS1 := Lib.hid hS1
      clear hK hS1
      go_wp2_with fail
      go_ret
      exact ⟨rfl, _, _, HK.out, HS1.out⟩
end Go.Proofs.YtmbmijhfoncncaaGreatDoor
