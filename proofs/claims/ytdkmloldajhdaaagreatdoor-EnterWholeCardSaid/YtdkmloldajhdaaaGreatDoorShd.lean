/- The contracts of enter.Real and enter.Set. -/
import Derived.Test.YtdkmloldajhdaaaGreatDoorSbl
namespace Go.Proofs.YtdkmloldajhdaaaGreatDoor
open Go.ChangeShapes Go.WideShapes Go.ChangeAt Go.RowKit
set_option linter.unusedVariables false

theorem memb_len (S : List St) (P : Nat → Bool) : (memb S P).length ≤ S.length := membU_len P _
theorem memb_valid {S : List St} {P : Nat → Bool} {x : Int} (h : x ∈ memb S P) : isSt S x = true := by
  unfold memb at h
  obtain ⟨j, hj, rfl⟩ := List.mem_map.1 h
  exact isSt_of (List.mem_range.1 (List.mem_filter.1 hj).1)
theorem of_valid {S : List St} (hT : Tame S) (H : List Nat) (s : Int) : (ofS S H s).length ≤ 31 ∧ ∀ x ∈ ofS S H s, isSt S x = true := by
  unfold ofS
  split
  · exact ⟨by simp, fun x hx => by cases hx⟩
  · rename_i hs
    have hs : isSt S s = true := by simpa using hs
    split
    · refine ⟨by simp, fun x hx => ?_⟩
      obtain rfl := List.mem_singleton.1 hx
      exact hs
    · rename_i hh
      have hh : histB (stAt S s).kind = true := by simpa using hh
      split
      · exact ⟨by have := memb_len S (bitN (histAt H s)); have := hT.len; omega, fun x hx => memb_valid hx⟩
      · obtain ⟨t, h1, h2, _⟩ := hT.ini5 s hs hh
        rw [h1]
        refine ⟨by simp, fun x hx => ?_⟩
        obtain rfl := List.mem_singleton.1 hx
        exact h2
theorem fold_realIn : ∀ (M acc : List Int), (M.foldl realIn acc).length ≤ acc.length + M.length
  | [], acc => by simp
  | x :: M, acc => by
    have h1 := fold_realIn M (realIn acc x)
    have h2 : (realIn acc x).length ≤ acc.length + 1 := by unfold realIn; split <;> simp
    rw [List.foldl_cons, List.length_cons]
    omega
theorem real_len {S : List St} (hT : Tame S) (H : List Nat) (l : List Int) : (realS S H l).length ≤ 31 * l.length := by
  have : ∀ (l acc : List Int), (l.foldl (fun acc s => (ofS S H s).foldl realIn acc) acc).length ≤ acc.length + 31 * l.length := by
    intro l
    induction l with
    | nil => intro acc; simp
    | cons s l ih =>
      intro acc
      have h1 := ih ((ofS S H s).foldl realIn acc)
      have h2 := fold_realIn (ofS S H s) acc
      have h3 := (of_valid hT H s).1
      rw [List.foldl_cons, List.length_cons]
      omega
  have h := this l []
  rw [List.length_nil, Nat.zero_add] at h
  exact h
theorem ent_of {w : World} {t : Nat} {vs vh : Value} {C : Ch} {H : List Nat} (hT : TreeAt w t C) (hk : chk hasTB C = .ok) (hF : fewB C = true) (hS : StsAt w vs C.sts) (hH : HistAt w vh H) (hl : H.length ≤ 1000) : Ent w t vs vh C H := by
  have hta := tame_of hk
  refine ⟨hT, hS, hH, rooted_of hk, hta.len, hl, fun s => by have := (of_valid hta H s).1; omega, fun s hs => ?_⟩
  obtain ⟨k, rfl, hkl⟩ := isSt_nat hs
  have := (few_sms hF hkl).1
  have he : stAt C.sts (k : Int) = C.sts.getD k noSt := by unfold stAt; rfl
  rw [he]
  omega
set_option maxHeartbeats 2000000 in
set_option maxRecDepth 100000 in
theorem enterReal_any (t : Nat) (vh vl : Value) (C : Ch) (H : List Nat) (l : List Int) (w : World) (hT : TreeAt w t C) (hk : chk hasTB C = .ok) (hF : fewB C = true) (hH : HistAt w vh H) (hl : H.length ≤ 1000) (hv : ListAt w vl l) (hll : l.length ≤ 1000) :
    Calls Tryz.prog 10 #[.pointer (some ⟨t, 0, none⟩), vh, vl] w (KPost (realS C.sts H l) w) := by
  have hta := tame_of hk
  obtain ⟨hA, hcap, rfl, hhcap⟩ := RowsAt.slice hH
  have HSI := Lib.hid (standIns_any t hA H.length hcap C w hT hF)
  have HRL := Lib.hid (fun (W : World) (vs : Value) (hb : Below w.heap.size w W) (hS : StsAt W vs C.sts) => real_any vs (.slice hA H.length hcap) vl C.sts H l W hS (hH.below hb) (hv.below hb) (by have := hta.len; omega) hl hll (fun s => of_valid hta H s))
  obtain ⟨lA, lcap, rfl, hlcap⟩ := RowsAt.slice hv
  clear hT hk hF hH hv
  go_enter Tryz.func10, Tryz.ntmps10
  go_wp2_with fail
  refine HSI.out.mono ?_
  rintro e w1 ⟨hb1, vs, rfl, hS1⟩
  have HB1 := Lib.hid hb1
  have HS1 := Lib.hid hS1
  clear hb1 hS1
  go_wp2_with fail
  refine (HRL.out w1 vs HB1.out HS1.out).mono ?_
  rintro e w2 ⟨hb2, v2, rfl, ho2⟩
  have HB2 := Lib.hid (HB1.out.trans (hb2.mono HB1.out.size))
  have HO2 := Lib.hid (own_lower ho2 HB1.out.size)
  clear hb2 ho2
  go_wp2_with fail
  go_ret
  exact ⟨HB2.out, _, rfl, HO2.out⟩
theorem enterSetNil_any (vh vl : Value) (a : Int) (w : World) : Calls Tryz.prog 13 #[.pointer none, vh, .int .i64 a, vl] w fun e w' => e = .returned (.int .u32 0) ∧ w = w' := by
  go_enter Tryz.func13, Tryz.ntmps13
  go_wp2_with fail
  go_ret
  exact ⟨rfl, rfl⟩
set_option maxHeartbeats 4000000 in
set_option maxRecDepth 100000 in
theorem enterSet_any (t : Nat) (a : Int) (vh vl : Value) (C : Ch) (H : List Nat) (l : List Int) (w : World) (hT : TreeAt w t C) (hk : chk hasTB C = .ok) (hF : fewB C = true) (hH : HistAt w vh H) (hl : H.length ≤ 1000) (hv : ListAt w vl l) (hll : l.length ≤ 1000) :
    Calls Tryz.prog 13 #[.pointer (some ⟨t, 0, none⟩), vh, .int .i64 a, vl] w fun e w' => e = .returned (.int .u32 ((bset (pSet C.sts H a l).a C.sts.length : Nat) : Int)) ∧ Below w.heap.size w w' := by
  have hta := tame_of hk
  obtain ⟨hA, hcap, rfl, hhcap⟩ := RowsAt.slice hH
  have HSI := Lib.hid (standIns_any t hA H.length hcap C w hT hF)
  have HENT := Lib.hid (fun (W : World) (vs : Value) (hb : Below w.heap.size w W) (hS : StsAt W vs C.sts) => ent_of (hT.below hb) hk hF hS (hH.below hb) hl)
  have HRL := Lib.hid (fun (W : World) (vs : Value) (hS : StsAt W vs C.sts) (hH : HistAt W (.slice hA H.length hcap) H) (hv : ListAt W vl l) => real_any vs (.slice hA H.length hcap) vl C.sts H l W hS hH hv (by have := hta.len; omega) hl hll (fun s => of_valid hta H s))
  have HLV := Lib.hid hv
  obtain ⟨lA, lcap, rfl, hlcap⟩ := RowsAt.slice hv
  obtain ⟨st0, hst0⟩ : ∃ st0 : Bs, st0 = ⟨fun _ => false, fun _ => false⟩ := ⟨_, rfl⟩
  obtain ⟨M, hM⟩ : ∃ M : Bs, M = l.foldl (pB C.sts H (C.sts.length + 2)) st0 := ⟨_, rfl⟩
  obtain ⟨D, hD⟩ : ∃ D : Bs, D = (realS C.sts H l).foldl (aboveW C.sts (tB C.sts) adB (pB C.sts H (C.sts.length + 2)) a) M := ⟨_, rfl⟩
  have HRES : Hid (pSet C.sts H a l = D) := Lib.hid (by rw [hD, hM, hst0]; rfl)
  have HM := Lib.hid hM
  have HD := Lib.hid hD
  have HC0 : Hid (cntU C.sts.length st0.b ≤ C.sts.length + 2) := Lib.hid (by rw [hst0]; show cntU C.sts.length (fun _ => false) ≤ _; rw [cntU_top]; omega)
  have HZ : Hid (bset st0.a C.sts.length = 0 ∧ bset st0.b C.sts.length = 0) := Lib.hid (by
    have h : bset (fun _ => false) C.sts.length = 0 := (bset_zero _ _).2 (by rw [List.any_eq_false]; intro x _; simp)
    rw [hst0]; exact ⟨h, h⟩)
  have hrl : (realS C.sts H l).length ≤ 1000000 := by have := real_len hta H l; omega
  generalize realS C.sts H l = R at *
  clear hT hk hF hH hv hst0 hM hD
  go_enter Tryz.func13, Tryz.ntmps13
  go_wp2_with fail
  refine HSI.out.mono ?_
  rintro e w1 ⟨hb1, vs, rfl, hS1⟩
  obtain ⟨sA, scap, rfl, hscap⟩ := RowsAt.slice hS1
  have HB1 := Lib.hid hb1
  have HN := Lib.hid (HENT.out w1 _ hb1 hS1)
  have HL1 := Lib.hid (HLV.out.below hb1)
  have HE0 : Hid (EAt w1 t (.slice sA C.sts.length scap) (.slice hA H.length hcap) C.sts.length st0 (w1.alloc (.cells #[.slice sA C.sts.length scap, .slice hA H.length hcap, .pointer (some ⟨t, 0, none⟩), .int .u32 0, .int .u32 0] 66))) := Lib.hid ⟨below_box w1 _, by rw [HZ.out.1, HZ.out.2]; exact Blk.new w1 66 _⟩
  have HL0 : Hid (LiAt (fun b => b ≠ w1.heap.size) (w1.alloc (.cells #[.slice sA C.sts.length scap, .slice hA H.length hcap, .pointer (some ⟨t, 0, none⟩), .int .u32 0, .int .u32 0] 66)) (.slice lA l.length lcap) l) := Lib.hid (list_in HL1.out (below_box w1 _))
  clear hb1 hS1 HSI HENT
  go_wp2_with fail
  go_loopw [23] (fun i wr => ∃ (k : Nat) (st2 : Bs), k ≤ l.length ∧ i = .int .i64 (k : Int) ∧ Hid (EAt w1 t (.slice sA C.sts.length scap) (.slice hA H.length hcap) C.sts.length st2 wr) ∧ Hid (cntU C.sts.length st2.b ≤ C.sts.length + 2) ∧ Hid (LiAt (fun b => b ≠ w1.heap.size) wr (.slice lA l.length lcap) l) ∧ Hid (M = (l.drop k).foldl (pB C.sts H (C.sts.length + 2)) st2)) (fun i _ => l.length - (intOf i).toNat)
  case atStart => exact ⟨0, st0, Nat.zero_le _, rfl, HE0, HC0, HL0, HM⟩
  case round =>
    clear HE0 HC0 HL0 HM
    obtain ⟨k, st2, hk, rfl, HE, HC, HL, HR⟩ := hrel
    obtain ⟨wo, rfl⟩ : ∃ wo : World, wo = wr := ⟨_, rfl⟩
    by_cases hlt : k < l.length
    · obtain ⟨mb, mo, hmA, hmbl, hmc0, hmne⟩ := (let ⟨_, _, h1, _, h3⟩ := HL.out; by injection h1 with e1 e2 e3; subst e1; exact h3 k _ (List.getElem?_eq_getElem hlt) : ∃ b o, lA = some ⟨b, o, none⟩ ∧ b < wo.heap.size ∧ (IntAt wo b (o + k * 1) l[k]) ∧ _)
      subst hmA
      have d0 : wo.cell? ⟨mb, mo + k, none⟩ = some (.int .i64 l[k]) := by have := hmc0; unfold IntAt at this; rwa [Nat.mul_one] at this
      have hRK := HR.out
      rw [List.drop_eq_getElem_cons hlt, List.foldl_cons] at hRK
      have HRK := Lib.hid hRK
      generalize l[k] = x at *
      clear hmc0 hmne hRK HR
      go_wp2_with fail
      refine ((below_ok HN.out _) x st2 _ HE.out HC.out).mono ?_
      rintro e w6 ⟨rfl, hg6, he6⟩
      have HE6 := Lib.hid he6
      have HL6 := Lib.hid (HL.out.grown hg6 fun b _ hb h => hb (by injection h))
      have HC6 : Hid (cntU C.sts.length (pB C.sts H (C.sts.length + 2) st2 x).b ≤ C.sts.length + 2) := Lib.hid (Nat.le_trans (cntU_le _ (pB_up C.sts H _ st2 x)) HC.out)
      clear hg6 he6
      go_wp2
      go_roundw
      case rel => exact ⟨k + 1, _, by omega, by go_num, HE6, HC6, HL6, HRK⟩
      case measure => simp [intOf]; omega
    · obtain rfl : k = l.length := by omega
      have hR := HR.out
      rw [List.drop_length, List.foldl_nil] at hR
      have HRR := Lib.hid hR
      clear hR
      have HRL1 := Lib.hid (HRL.out wo _ (HN.out.sts.below HE.out.below) (HN.out.hist.below HE.out.below) (HL1.out.below HE.out.below))
      have p0 := HE.out.cells.1.1
      have p1 := HE.out.cells.1.2.1
      go_wp2_with fail
      refine HRL1.out.mono ?_
      rintro e w2 ⟨hb2, v2, rfl, ho2⟩
      have HE2 := Lib.hid (HE.out.kept hb2)
      rw [← HRR.out] at HE2 HC
      have HC2 := Lib.hid HC.out
      have HL2 : Hid (LiAt (fun b => b ≠ w1.heap.size) w2 v2 R) := Lib.hid (LiAt.of_own ho2 fun b hb => by have := HE.out.lt; omega)
      obtain ⟨rA, rcap, rfl, hrc⟩ := RowsAt.slice HL2.out
      clear hb2 ho2 HE HC HRR HRL1 p0 p1
      go_wp2_with fail
      go_loopw [35] (fun i wr => ∃ (k : Nat) (st2 : Bs), k ≤ R.length ∧ i = .int .i64 (k : Int) ∧ Hid (EAt w1 t (.slice sA C.sts.length scap) (.slice hA H.length hcap) C.sts.length st2 wr) ∧ Hid (cntU C.sts.length st2.b ≤ C.sts.length + 2) ∧ Hid (LiAt (fun b => b ≠ w1.heap.size) wr (.slice rA R.length rcap) R) ∧ Hid (D = (R.drop k).foldl (aboveW C.sts (tB C.sts) adB (pB C.sts H (C.sts.length + 2)) a) st2)) (fun i _ => R.length - (intOf i).toNat)
      case atStart => exact ⟨0, M, Nat.zero_le _, rfl, HE2, HC2, HL2, HD⟩
      case round =>
        clear HE2 HC2 HL2 HD HL hlt hk
        obtain ⟨k, st2, hk, rfl, HE, HC, HL, HR⟩ := hrel
        obtain ⟨wo, rfl⟩ : ∃ wo : World, wo = wr := ⟨_, rfl⟩
        by_cases hlt : k < R.length
        · obtain ⟨mb, mo, hmA, hmbl, hmc0, hmne⟩ := (let ⟨_, _, h1, _, h3⟩ := HL.out; by injection h1 with e1 e2 e3; subst e1; exact h3 k _ (List.getElem?_eq_getElem hlt) : ∃ b o, rA = some ⟨b, o, none⟩ ∧ b < wo.heap.size ∧ (IntAt wo b (o + k * 1) R[k]) ∧ _)
          subst hmA
          have d0 : wo.cell? ⟨mb, mo + k, none⟩ = some (.int .i64 R[k]) := by have := hmc0; unfold IntAt at this; rwa [Nat.mul_one] at this
          have hRK := HR.out
          rw [List.drop_eq_getElem_cons hlt, List.foldl_cons] at hRK
          have HRK := Lib.hid hRK
          generalize R[k] = x at *
          clear hmc0 hmne hRK HR
          go_wp2_with fail
          refine (addAbove_any HN.out (below_ok HN.out _) x a st2 _ HE.out HC.out).mono ?_
          rintro e w6 ⟨rfl, hg6, he6⟩
          have HE6 := Lib.hid he6
          have HL6 := Lib.hid (HL.out.grown hg6 fun b _ hb h => hb (by injection h))
          have HC6 : Hid (cntU C.sts.length (aboveW C.sts (tB C.sts) adB (pB C.sts H (C.sts.length + 2)) a st2 x).b ≤ C.sts.length + 2) := Lib.hid (Nat.le_trans (cntU_le _ (upW_up (pB_up C.sts H _) a (ups C.sts x) st2)) HC.out)
          clear hg6 he6
          go_wp2
          go_roundw
          case rel => exact ⟨k + 1, _, by omega, by go_num, HE6, HC6, HL6, HRK⟩
          case measure => simp [intOf]; omega
        · obtain rfl : k = R.length := by omega
          have hR := HR.out
          rw [List.drop_length, List.foldl_nil] at hR
          have HRR := Lib.hid hR
          clear hR
          have q3 := HE.out.cells.2.1
          go_wp2_with fail
          go_ret
          exact ⟨ret_int (by rw [HRES.out, HRR.out]), HB1.out.trans (HE.out.below.mono HB1.out.size)⟩
end Go.Proofs.YtdkmloldajhdaaaGreatDoor
/- The head of layer 8's statements (spinetlaw08.up): it holds. -/
namespace Go.Proofs.YtdkmloldajhdaaaGreatDoor
open Go.ChangeShapes Go.WideShapes Go.ChangeAt Go.RowKit
set_option linter.unusedVariables false

def ch8 : Ch := ⟨0, [⟨2, -1, [2], [], []⟩, ⟨2, 0, [2], [], []⟩, ⟨1, 1, [], [], []⟩], []⟩
theorem chk8 : chk hasTB ch8 = .ok := by kernel_rfl
theorem few8 : fewB ch8 = true := by kernel_rfl
theorem set8a : bset (pSet ch8.sts [] 0 [2]).a 3 = 6 := by decide +kernel
theorem set8b : bset (pSet ch8.sts [] (-1) [2]).a 3 = 7 := by decide +kernel
abbrev st8Cells (u v : Value) : Array Value := #[.int .i64 2, .int .i64 (-1), u, .slice none 0 0, .slice none 0 0, .int .i64 2, .int .i64 0, v, .slice none 0 0, .slice none 0 0, .int .i64 1, .int .i64 1, .slice none 0 0, .slice none 0 0, .slice none 0 0]
theorem has8 {W : World} {g : Nat} {u v : Value} (h : Blk W g 47 (st8Cells u v)) (hu : ListAt W u [2]) (hv : ListAt W v [2]) : ChHas W (.slice (some ⟨g, 0, none⟩) 3 3) (.slice none 0 0) ch8 := by
  refine ⟨⟨_, 3, rfl, Nat.le_refl _, fun i x hx => ?_⟩, RowsAt.nil W⟩
  match i, hx with
  | 0, hx =>
    simp [ch8] at hx
    subst hx
    exact ⟨g, 0, rfl, h.lt, u, _, _, ⟨h.cell 0, h.cell 1, h.cell 2, h.cell 3, h.cell 4⟩, hu, RowsAt.nil W, RowsAt.nil W⟩
  | 1, hx =>
    simp [ch8] at hx
    subst hx
    exact ⟨g, 0, rfl, h.lt, v, _, _, ⟨h.cell 5, h.cell 6, h.cell 7, h.cell 8, h.cell 9⟩, hv, RowsAt.nil W, RowsAt.nil W⟩
  | 2, hx =>
    simp [ch8] at hx
    subst hx
    exact ⟨g, 0, rfl, h.lt, _, _, _, ⟨h.cell 10, h.cell 11, h.cell 12, h.cell 13, h.cell 14⟩, RowsAt.nil W, RowsAt.nil W, RowsAt.nil W⟩
  | i + 3, hx => simp [ch8] at hx
set_option maxHeartbeats 4000000 in
set_option maxRecDepth 100000 in
theorem upS_any (w : World) (hL : Laid w) : Calls Tryz.prog 6 #[] w fun e w' => e = .returned (.bool true) ∧ Below w.heap.size w w' := by
  have hnn := neq_nil_nil
  have HL := Lib.hid hL
  have e1 : w.heap.size + 1 = (w.alloc (.cells #[.int .i64 2] 3)).heap.size := by simp
  have hb3 : Below w.heap.size w (((w.alloc (.cells #[.int .i64 2] 3)).alloc (.cells #[.int .i64 2] 3)).alloc (.cells (st8Cells (.slice (some ⟨w.heap.size, 0, none⟩) 1 1) (.slice (some ⟨w.heap.size + 1, 0, none⟩) 1 1)) 47)) := (((Below.refl _ _).alloc (Nat.le_refl _) _).alloc (by simp) _).alloc (by simp; omega) _
  have hk0 := ((Blk.new w 3 #[.int .i64 2]).alloc (.cells #[.int .i64 2] 3)).alloc (.cells (st8Cells (.slice (some ⟨w.heap.size, 0, none⟩) 1 1) (.slice (some ⟨w.heap.size + 1, 0, none⟩) 1 1)) 47)
  have hk1 := (Blk.new_at (w.alloc (.cells #[.int .i64 2] 3)) 3 #[.int .i64 2] (w.heap.size + 1) (by simp)).alloc (.cells (st8Cells (.slice (some ⟨w.heap.size, 0, none⟩) 1 1) (.slice (some ⟨w.heap.size + 1, 0, none⟩) 1 1)) 47)
  have hk2 := Blk.new_at ((w.alloc (.cells #[.int .i64 2] 3)).alloc (.cells #[.int .i64 2] 3)) 47 (st8Cells (.slice (some ⟨w.heap.size, 0, none⟩) 1 1) (.slice (some ⟨w.heap.size + 1, 0, none⟩) 1 1)) (w.heap.size + 1 + 1) (by simp)
  have HN := Lib.hid (new_any _ _ ch8 _ (hL.after hb3) (has8 hk2 (one_list _ hk0) (one_list _ hk1)) few8)
  have HB3 := Lib.hid hb3
  clear hL e1 hb3 hk0 hk1 hk2
  go_enter Tryz.func6, Tryz.ntmps6
  go_wp2_with fail
  refine HN.out.mono ?_
  intro e w2 hp
  unfold NPost at hp
  rw [chk8] at hp
  obtain ⟨hb2, t, rfl, _, hT⟩ := hp
  have HB2 := Lib.hid (HB3.out.trans (hb2.mono HB3.out.size))
  have HT := Lib.hid hT
  clear hb2 hT HN HB3
  go_wp2_with fail
  have HB4 := Lib.hid (HB2.out.alloc HB2.out.size (.cells #[.int .i64 2] 3))
  have HT4 := Lib.hid (HT.out.below (below_box w2 (.cells #[.int .i64 2] 3)))
  have HS := Lib.hid (enterSet_any t 0 (.slice none 0 0) _ ch8 [] [2] _ HT4.out chk8 few8 (RowsAt.nil _) (by simp) (one_list w2.heap.size (Blk.new w2 3 _)) (by simp))
  refine HS.out.mono ?_
  rintro e w5 ⟨rfl, hb5⟩
  have HB5 := Lib.hid (HB4.out.trans (hb5.mono HB4.out.size))
  have HT5 := Lib.hid (HT4.out.below hb5)
  rw [show ((bset (pSet ch8.sts [] 0 [2]).a ch8.sts.length : Nat) : Int) = 6 from congrArg Nat.cast set8a]
  clear hb5 HS HT4 HB4 HT HB2
  go_wp2_with fail
  have HB6 := Lib.hid (HB5.out.alloc HB5.out.size (.cells #[.int .i64 2] 3))
  have HT6 := Lib.hid (HT5.out.below (below_box w5 (.cells #[.int .i64 2] 3)))
  have HS := Lib.hid (enterSet_any t (-1) (.slice none 0 0) _ ch8 [] [2] _ HT6.out chk8 few8 (RowsAt.nil _) (by simp) (one_list w5.heap.size (Blk.new w5 3 _)) (by simp))
  refine HS.out.mono ?_
  rintro e w7 ⟨rfl, hb7⟩
  have HB7 := Lib.hid (HB6.out.trans (hb7.mono HB6.out.size))
  rw [show ((bset (pSet ch8.sts [] (-1) [2]).a ch8.sts.length : Nat) : Int) = 7 from congrArg Nat.cast set8b]
  clear hb7 HS HT6 HB6 HT5 HB5
  go_wp2_with fail
  refine (enterSetNil_any _ _ _ _).mono ?_
  rintro e w8 ⟨rfl, rfl⟩
  go_wp2_with fail
  go_ret
  exact ⟨rfl, HB7.out.alloc HB7.out.size _⟩
end Go.Proofs.YtdkmloldajhdaaaGreatDoor
