/- due. -/
import Derived.Test.YtlfiijlfokckkaaYdup
import Derived.Deep.LoopGhost
namespace Go.Proofs.Ytlfiijlfokckkaa
open Go.ChangeShapes Go.WideShapes Go.ChangeAt Go.RowKit Go.Maps
set_option linter.unusedVariables false

def OwnT (w : World) (B : Nat) (v : Value) (L : List Tm) : Prop := w.ownsRow B 30 3 v L.length (rowT L)
theorem TmAt.keeps' (w w' : World) (b o : Nat) (x : Tm) (hb : Below w.heap.size w w') (hlt : b < w.heap.size) (h : TmAt w b o x) : TmAt w' b o x := TmAt.keeps w w' b o x hb hlt h
theorem OwnT.nil (w : World) (B : Nat) : OwnT w B (.slice none 0 0) [] := World.ownsRow_nil _ _ _ _
theorem OwnT.tms {w : World} {B : Nat} {v : Value} {L : List Tm} (h : OwnT w B v L) : TmsAt w v L := tms_of_own h
theorem OwnT.below {w w' : World} {B : Nat} {v : Value} {L : List Tm} (h : OwnT w B v L) (hb : Below w.heap.size w w') : OwnT w' B v L := own_below h hb
theorem OwnT.slice {w : World} {B : Nat} {v : Value} {L : List Tm} (h : OwnT w B v L) : ∃ A cap, v = .slice A L.length cap := by
  rcases h.2 with ⟨h1, h2⟩ | ⟨g', cap, cur, h1, _⟩
  · exact ⟨none, 0, by rw [h1, h2]⟩
  · exact ⟨_, _, h1⟩
theorem OwnT.base {w : World} {B B' : Nat} {v : Value} {L : List Tm} (h : OwnT w B v L) (hB : B' ≤ B) : OwnT w B' v L := by
  refine ⟨h.1, ?_⟩
  rcases h.2 with h2 | ⟨g', cap, cur, h1, h2, h3⟩
  · exact .inl h2
  · exact .inr ⟨g', cap, cur, h1, Nat.le_trans hB h2, h3⟩
theorem OwnT.lt {w : World} {B : Nat} {v : Value} {L : List Tm} (h : OwnT w B v L) : ∀ b, v.ownBlock = some b → B ≤ b ∧ b < w.heap.size := by
  intro b hb
  rcases h.2 with ⟨h1, _⟩ | ⟨g', cap, cur, h1, h2, h3, _⟩
  · rw [h1] at hb; cases hb
  · rw [h1] at hb
    injection hb with hb
    have : g' = b := hb
    subst this
    exact ⟨h2, Blk.lt h3⟩
/-- an old world stays so where the row that grows is new -/
theorem below_grown {a w w' : World} {r : Option Nat} (h : Below a.heap.size a w) (hg : w.grownBy w' r) (hr : ∀ b, r = some b → a.heap.size ≤ b) : Below a.heap.size a w' :=
  ⟨hg.os.trans h.os, hg.tape.trans h.tape, hg.output.trans h.output, Nat.le_trans h.size hg.size, fun k hk => (hg.block k (Nat.lt_of_lt_of_le hk h.size) (fun e => by have := hr k e.symm; omega)).trans (h.block k hk)⟩
theorem OwnT.snoc {w : World} {B : Nat} {v : Value} {L : List Tm} {t : Tm} (h : w.ownsRow B 30 3 v (L.length + 1) (rowT L ++ encT t)) : OwnT w B v (L ++ [t]) := by
  unfold OwnT
  rw [rowT_snoc, List.length_append]
  exact h

set_option maxHeartbeats 4000000 in
set_option maxRecDepth 100000 in
theorem due_any (B g m : Nat) (vs : Nat → Value) (c now : Int) (S : List Tm) (w : World) (h : WhAt B w g m vs c S) (hS : Sound c S) (hn0 : c ≤ now) (hn1 : now ≤ 1073741824) :
    Calls Try.prog 16 #[.pointer (some ⟨g, 0, none⟩), .int .i64 now] w fun e w' => Below w.heap.size w w' ∧ ∃ v R, e = .returned v ∧ OwnT w' w.heap.size v R ∧ DueOf S now R ∧ R.length ≤ 5000 := by
  obtain ⟨n, hn⟩ : ∃ n : Nat, (n : Int) = min now (c + 64) - c := ⟨(min now (c + 64) - c).toNat, by omega⟩
  have hn64 : n ≤ 64 := by omega
  have hc0 := hS.now0
  have hc1 := hS.now1
  have HN := Lib.hid hn
  have HH := Lib.hid h
  have HS := Lib.hid hS
  have c0 := h.c0
  have w1 : IntKind.i64.wrap (c + 1) = c + 1 := by rw [IntKind.wrap_i64]; omega
  obtain ⟨i0, hi, hz0, hz1, hz2⟩ := info_parts Try.info30
  have HI := Lib.hid hi
  have HZ0 := Lib.hid hz0
  have HZ1 := Lib.hid hz1
  have HZ2 := Lib.hid hz2
  clear h hS hn hi hz0 hz1 hz2
  go_enter Try.func16, Try.ntmps16
  go_wp2_with fail
  go_loopg [6, 5] n (fun kx s6 s5 wr => ∃ (i : Nat) (tk : Int), s6 = .int .i64 tk ∧ Hid (tk = c + 1 + (i : Int)) ∧ i ≤ n ∧ n - i ≤ kx ∧ Hid (OwnT wr w.heap.size s5 (lateF S now c i)) ∧ Hid (Below w.heap.size w wr))
  case atStart => exact ⟨0, c + 1, rfl, Lib.hid (by simp), Nat.zero_le _, by omega, Lib.hid (OwnT.nil _ _), Lib.hid (Below.refl _ _)⟩
  case round =>
    clear c0 w1
    obtain ⟨i, tk, hs6, HTK, hin, hkx, HO, HB⟩ := hrel
    subst hs6
    obtain ⟨wo, rfl⟩ : ∃ W : World, W = wr := ⟨_, rfl⟩
    have HA := Lib.hid (HH.out.below HB.out)
    have c0 := HA.out.c0
    have w1 : IntKind.i64.wrap (c + 64) = c + 64 := by rw [IntKind.wrap_i64]; omega
    have hntk := HTK.out
    have hnn := HN.out
    by_cases hlt : i < n
    · have htn : tk ≤ min now (c + 64) := by omega
      have htd : decide (tk ≤ min now (c + 64)) = true := by simpa using htn
      have htk0 : 0 ≤ tk ∧ tk ≤ 2000000000 := by omega
      obtain ⟨k, hk, hk64⟩ : ∃ k : Nat, (tk % 64).toNat = k ∧ k < 64 := ⟨_, rfl, by omega⟩
      have hsp := spoke_any g tk wo htk0.1 htk0.2
      rw [hk] at hsp
      have HSP := Lib.hid hsp
      have HKK : Hid (((c + 1 + (i : Int)) % 64).toNat = k) := Lib.hid (by rw [← hntk]; exact hk)
      have ck := HA.out.ck hk64
      obtain ⟨A, cap, hv⟩ := HA.out.slice hk64
      have htms := tms_of_own (HH.out.rows k hk64)
      rw [hv] at ck htms
      have HT := Lib.hid htms
      have HSL : Hid ((spk S k).length ≤ 50) := Lib.hid (Nat.le_trans (spk_len S k) HS.out.few)
      have HLF : Hid ((lateF S now c i).length ≤ 5000) := Lib.hid (by
        have h1 := lateF_len S now c i
        have h2 := HS.out.few
        have : i * S.length ≤ 64 * 50 := Nat.mul_le_mul (by omega) h2
        omega)
      have wk : IntKind.i64.wrap (tk + 1) = tk + 1 := by rw [IntKind.wrap_i64]; omega
      have HTK0 := Lib.hid htk0
      clear hk hsp hv htms hntk hnn htk0
      go_wp2_with fail
      refine HSP.out.mono ?_
      rintro e w3 ⟨rfl, rfl⟩
      obtain ⟨l, HL⟩ : ∃ l, Hid (l = spk S k) := ⟨_, Lib.hid rfl⟩
      rw [← HL.out] at ck HT HSL
      obtain ⟨A0, cap0, hsl, hcap, hcells⟩ := HT.out
      injection hsl with hs1 hs2 hs3
      subst hs1; subst hs3
      have HC := Lib.hid hcells
      have HCK := Lib.hid ck
      have HB3 := Lib.hid HB.out
      clear hcells hs2 hcap
      go_wp2_with fail
      clear ck c0 htn htd w1
      go_loopg [31, 5] l.length (fun ky s31 s5 wr => ∃ (j : Nat), s31 = .int .i64 (j : Int) ∧ j ≤ l.length ∧ l.length - j ≤ ky ∧ Hid (OwnT wr w.heap.size s5 (lateF S now c i ++ (l.take j).filter (lateB now))) ∧ Hid (Below w.heap.size w wr))
      case atStart => exact ⟨0, rfl, Nat.zero_le _, by omega, Lib.hid (by simpa using HO.out), HB⟩
      case round =>
        clear HO HB HB3 HCK HSP HT
        obtain ⟨j, hs31, hj, hky, HO, HB⟩ := hrel
        subst hs31
        obtain ⟨wi, rfl⟩ : ∃ W : World, W = wr := ⟨_, rfl⟩
        have HBS : Hid (w.heap.size ≤ wi.heap.size) := Lib.hid HB.out.size
        by_cases hjl : j < l.length
        · have hx := List.getElem?_eq_getElem hjl
          obtain ⟨b, o, rfl, hbl, hc⟩ := HC.out j _ hx
          obtain ⟨d0, d1, d2⟩ := TmAt.keeps' w wi b _ _ HB.out hbl hc
          have HTK1 : Hid ((l.take (j + 1)).filter (lateB now) = (l.take j).filter (lateB now) ++ if l[j].tick ≤ now then [l[j]] else []) := Lib.hid (by
            rw [List.take_add_one, hx, List.filter_append]
            unfold lateB
            by_cases e : l[j].tick ≤ now <;> simp [e])
          generalize l[j] = t at d0 d1 d2 HTK1
          obtain ⟨t0, t1, t2⟩ := t
          simp only at d0 d1 d2 HTK1
          have hjlz : (j : Int) < (l.length : Int) := by omega
          have wj : IntKind.i64.wrap ((j : Int) + 1) = (j : Int) + 1 := by have := HSL.out; rw [IntKind.wrap_i64]; omega
          clear hx hc
          by_cases ht : t1 ≤ now
          · rw [if_pos ht] at HTK1
            have HBN := Lib.hid (Blk.new (wi.alloc (.cells #[.int .i64 t0, .int .i64 t1, .int .i64 t2] 30)) 30 #[.int .i64 t0, .int .i64 t1, .int .i64 t2])
            have HO2 := Lib.hid ((HO.out.below (below_box wi (.cells #[.int .i64 t0, .int .i64 t1, .int .i64 t2] 30))).below (below_box (wi.alloc (.cells #[.int .i64 t0, .int .i64 t1, .int .i64 t2] 30)) (.cells #[.int .i64 t0, .int .i64 t1, .int .i64 t2] 30)))
            have HB2 := Lib.hid ((HB.out.trans ((below_box wi (.cells #[.int .i64 t0, .int .i64 t1, .int .i64 t2] 30)).mono HB.out.size)).trans ((below_box (wi.alloc (.cells #[.int .i64 t0, .int .i64 t1, .int .i64 t2] 30)) (.cells #[.int .i64 t0, .int .i64 t1, .int .i64 t2] 30)).mono (by simp; have := HB.out.size; omega)))
            have HLL : Hid ((lateF S now c i ++ (l.take j).filter (lateB now)).length ≤ 6000) := Lib.hid (by
              rw [List.length_append]
              have h1 := HLF.out
              have h2 := List.length_filter_le (lateB now) (l.take j)
              have h3 := HSL.out
              have h4 := List.length_take_le j l
              omega)
            go_wp2_with (at_builtin; refine wpList_append_own_at _ rfl _ _ 26 rfl w.heap.size 30 i0 (.agg #[.int .i64 0, .int .i64 0, .int .i64 0]) 3 24 Try.underlying26 HI.out HZ0.out HZ1.out HZ2.out rfl (by decide) _ _ _ rfl HO2.out ⟨wi.heap.size + 1, 0, none⟩ 1 1 (encT ⟨t0, t1, t2⟩) rfl rfl (tm_at (by simpa using HBN.out)) (tm_one _) ?c3 ?c4 ?c5 ?_)
            case c3 => have := HLL.out; unfold maxLen; omega
            case c4 => have := HLL.out; omega
            case c5 => have := HBS.out; simp; omega
            intro v' w5 hown hgrow hnn hloc
            have HO5 := Lib.hid (OwnT.snoc (by rw [List.length_append]; exact hown))
            have HB5 := Lib.hid (below_grown HB2.out hgrow (fun b hb => (HO2.out.lt b hb).1))
            clear hown hgrow hnn hloc
            go_wp2_with fail
            go_roundg (l.length - (j + 1))
            case measure => omega
            case rel => exact ⟨j + 1, by go_num, by omega, by omega, Lib.hid (by rw [HTK1.out, ← List.append_assoc]; exact HO5.out), HB5⟩
          · rw [if_neg ht] at HTK1
            have HO2 := Lib.hid (HO.out.below (below_box wi (.cells #[.int .i64 t0, .int .i64 t1, .int .i64 t2] 30)))
            have HB2 := Lib.hid (HB.out.trans ((below_box wi (.cells #[.int .i64 t0, .int .i64 t1, .int .i64 t2] 30)).mono HB.out.size))
            go_wp2_with fail
            go_roundg (l.length - (j + 1))
            case measure => omega
            case rel => exact ⟨j + 1, by go_num, by omega, by omega, Lib.hid (by rw [HTK1.out, List.append_nil]; exact HO2.out), HB2⟩
        · obtain rfl : j = l.length := by omega
          have hjlz : ¬ (l.length : Int) < (l.length : Int) := by omega
          go_wp2_with fail
          go_roundg (n - (i + 1))
          case measure => omega
          case rel => exact ⟨i + 1, tk + 1, by go_num, Lib.hid (by have := HTK.out; omega), by omega, by omega, Lib.hid (by rw [lateF_succ, HKK.out, ← HL.out]; have := HO.out; rwa [List.take_length] at this), HB⟩
    · have htn : ¬ tk ≤ min now (c + 64) := by omega
      have htd : decide (tk ≤ min now (c + 64)) = false := by simpa using htn
      obtain rfl : i = n := by omega
      have HLF : (lateF S now c i).length ≤ 5000 := by
        have h1 := lateF_len S now c i
        have h2 := HS.out.few
        have : i * S.length ≤ 64 * 50 := Nat.mul_le_mul (by omega) h2
        omega
      have HSRT := Lib.hid (sortOwn_any w.heap.size u5 (lateF S now c i) wo HO.out HLF)
      clear hntk hnn
      go_wp2_with fail
      refine HSRT.out.mono ?_
      rintro e w4 ⟨rfl, hg4, R, hR, hown⟩
      have HF : Hid (Below w.heap.size w w4 ∧ OwnT w4 w.heap.size u5 R ∧ DueOf S now R ∧ R.length ≤ 5000) := Lib.hid ⟨below_grown HB.out hg4 (fun b hb => (HO.out.lt b hb).1), hown, ⟨hR.1, fun x => (hR.2.2 x).trans (lateF_all HS.out HN.out x)⟩, by rw [hR.2.1]; exact HLF⟩
      clear hown hg4 hR
      go_wp2_with fail
      go_ret
      exact ⟨HF.out.1, _, R, rfl, HF.out.2⟩
end Go.Proofs.Ytlfiijlfokckkaa
