/- The contracts of the document's Bits and Enter. -/
import Derived.Test.YtdkmloldajhdaaaGreatDoorSdn
import Derived.Test.YtdkmloldajhdaaaGreatDoorSgd
namespace Go.Proofs.YtdkmloldajhdaaaGreatDoor
open Go.ChangeShapes Go.WideShapes Go.ChangeAt Go.RowKit
set_option linter.unusedVariables false

theorem Tryz.info4 : (Tryz.prog.info? 4).map (fun i => (i.zero, i.size, i.bytes)) = some (some (.bool false), 1, 1) := by kernel_rfl
theorem half (n m : Nat) : n / 2 ^ m = n / 2 ^ (m + 1) * 2 + n / 2 ^ m % 2 := by
  rw [Nat.pow_succ, ← Nat.div_div_eq_div_mul]
  omega
set_option maxHeartbeats 2000000 in
set_option maxRecDepth 100000 in
theorem bits_any {w0 : World} {vr : Int} {vs vt vh : Value} {n : Nat} {A : Nat → Bool} (w : World) (hE : DAt w0 vr vs vt vh n A w) (hn : n ≤ 31) :
    Calls Tryz.prog 31 #[.slice (some ⟨w0.heap.size, 0, none⟩) n n] w fun e w' => e = .returned (.int .u32 ((bset A n : Nat) : Int)) ∧ w = w' := by
  have HB := Lib.hid (fun k hk => (hE.bit k hk).1)
  have HNB := Lib.hid (fun k (hk : k < n) => bset_bit A n k hk)
  have hsm := bset_u32 A hn
  have H0 : Hid (bset A n / 2 ^ n = 0) := Lib.hid (Nat.div_eq_of_lt (bset_lt A n))
  have H1 : Hid (bset A n / 2 ^ 0 = bset A n) := Lib.hid (by simp)
  generalize bset A n = N at *
  clear hE
  go_enter Tryz.func31, Tryz.ntmps31
  go_wp2_with fail
  go_loopw [3, 4] (fun v i wr => ∃ m : Nat, m ≤ n ∧ i = .int .i64 ((m : Int) - 1) ∧ v = .int .u32 ((N / 2 ^ m : Nat) : Int) ∧ wr = w) (fun _ i _ => (intOf i + 1).toNat)
  case atStart => exact ⟨n, Nat.le_refl _, by go_num, by rw [H0.out]; rfl, rfl⟩
  case round =>
    obtain ⟨m, hm, rfl, rfl, rfl⟩ := hrel
    by_cases h0 : m = 0
    · subst h0
      go_wp2_with fail
      go_ret
      exact ⟨ret_int (by rw [H1.out]), rfl⟩
    · obtain ⟨j, rfl⟩ : ∃ j, m = j + 1 := ⟨m - 1, by omega⟩
      have e1 : ((j + 1 : Nat) : Int) - 1 = (j : Int) := by omega
      rw [e1]
      have hge : decide (0 ≤ (j : Int)) = true := by simp
      have c0 : wr.cell? ⟨w0.heap.size, j, none⟩ = some (.bool (A j)) := HB.out j (by omega)
      have hbit := HNB.out j (by omega)
      have hhf := half N j
      have hle : N / 2 ^ j ≤ N := Nat.div_le_self _ _
      generalize hq : N / 2 ^ (j + 1) = q at *
      generalize hp : N / 2 ^ j = p at *
      have hw : IntKind.u32.wrap ((q : Int) * 2) = (q : Int) * 2 := wrap_u32 _ (by omega) (by have : (2 : Int) ^ 32 = 4294967296 := rfl; omega)
      cases hA : A j with
      | true =>
        rw [hA] at c0 hbit
        have hpq : p = q * 2 + 1 := by rw [if_pos rfl] at hbit; omega
        have hw2 : IntKind.u32.wrap ((q : Int) * 2 + 1) = (q : Int) * 2 + 1 := wrap_u32 _ (by omega) (by have : (2 : Int) ^ 32 = 4294967296 := rfl; omega)
        have HP := Lib.hid hp
        have HPQ := Lib.hid hpq
        clear hq hp hhf hbit hA hpq
        go_wp2_with fail
        go_roundw
        case rel => exact ⟨j, by omega, by go_num, by rw [HP.out, HPQ.out]; go_num, trivial⟩
        case measure => simp [intOf]
      | false =>
        rw [hA] at c0 hbit
        have hpq : p = q * 2 := by rw [if_neg (by simp)] at hbit; omega
        have HP := Lib.hid hp
        have HPQ := Lib.hid hpq
        clear hq hp hhf hbit hA hpq
        go_wp2_with fail
        go_roundw
        case rel => exact ⟨j, by omega, by go_num, by rw [HP.out, HPQ.out]; go_num, trivial⟩
        case measure => simp [intOf]
theorem list_in0 {w0 w : World} {v : Value} {L : List Int} (h : ListAt w0 v L) (hb : Below w0.heap.size w0 w) : LiAt (fun b => b ≠ w0.heap.size) w v L := list_in h hb
theorem realIn_valid {S : List St} : ∀ (M acc : List Int), (∀ x ∈ M, isSt S x = true) → (∀ x ∈ acc, isSt S x = true) → ∀ x ∈ M.foldl realIn acc, isSt S x = true
  | [], acc, _, h, x, hx => h x hx
  | y :: M, acc, hM, h, x, hx => realIn_valid M (realIn acc y) (fun z hz => hM z (List.mem_cons_of_mem _ hz)) (fun z hz => by
      rcases realIn_mem.1 hz with hz | hz
      · exact h z hz
      · rw [hz]; exact hM y (List.mem_cons_self ..)) x hx
theorem real_valid {S : List St} (hT : Tame S) (H : List Nat) (l : List Int) : ∀ x ∈ realS S H l, isSt S x = true := by
  have : ∀ (l acc : List Int), (∀ x ∈ acc, isSt S x = true) → ∀ x ∈ l.foldl (fun acc s => (ofS S H s).foldl realIn acc) acc, isSt S x = true := by
    intro l
    induction l with
    | nil => intro acc h; exact h
    | cons s l ih => intro acc h; exact ih _ (realIn_valid _ _ (of_valid hT H s).2 h)
  exact this l [] (fun x hx => by cases hx)
set_option maxHeartbeats 8000000 in
set_option maxRecDepth 100000 in
theorem renter_any (vr a : Int) (vs vt vh vl : Value) (C : Ch) (H : List Nat) (l : List Int) (w : World) (hC : ChHas w vs vt C) (hH : HistAt w vh H) (hv : ListAt w vl l) (hta : Tame C.sts) (hG : ∀ s, s < H.length → GoodAt C.sts H s) (hHl : H.length ≤ 1000) (hll : l.length ≤ 1000) :
    Calls Tryz.prog 14 #[.agg #[.int .i64 vr, vs, vt], vh, .int .i64 a, vl] w fun e w' => e = .returned (.int .u32 ((bset (dSet C.sts H a l) C.sts.length : Nat) : Int)) ∧ Below w.heap.size w w' := by
  have hlen := hta.len
  obtain ⟨i1, hi1, hz1, hs1, hy1⟩ := info_parts Tryz.info4
  have HMK : Hid (∀ W : World, (Instr.makeSlice 70 (.int .i64 (C.sts.length : Int)) (.int .i64 (C.sts.length : Int))).run Tryz.prog W = .ok (.slice (some ⟨W.heap.size, 0, none⟩) C.sts.length C.sts.length) (W.alloc (.cells (madeCells #[.bool false] C.sts.length) 4))) := Lib.hid (fun W => by
    have := run_make (P := Tryz.prog) W 70 4 i1 (.bool false) Tryz.underlying70 hi1 hz1 .i64 .i64 (C.sts.length : Int) (C.sts.length : Int) (by omega) (by omega) (by rw [hy1]; omega) (by omega)
    rw [hs1] at this
    simpa [Value.cells] using this)
  obtain ⟨g1, g2⟩ := good_std hta hG
  have HENT := Lib.hid (fun (W : World) (hb : Below w.heap.size w W) => (⟨hC.below hb, hH.below hb, hta, hHl, g1, g2, fun s => by have := (of_valid hta H s).1; omega⟩ : DEnt W vr vs vt vh C H))
  have HRA := Lib.hid (fun (W : World) (hb : Below w.heap.size w W) => rreal_any vr vs vt vh vl C H l W (hC.below hb) (hH.below hb) (hv.below hb) hta hHl hll)
  have HLV := Lib.hid hv
  have HRV := Lib.hid (real_valid hta H l)
  have hrl : (realS C.sts H l).length ≤ 31000 := by have := real_len hta H l; omega
  obtain ⟨M, hM⟩ : ∃ M, M = l.foldl (dB C.sts H (C.sts.length + 2)) (fun _ => false) := ⟨_, rfl⟩
  obtain ⟨D, hD⟩ : ∃ D, D = (realS C.sts H l).foldl (aboveW C.sts (someD C.sts) addS (dB C.sts H (C.sts.length + 2)) a) M := ⟨_, rfl⟩
  have HRES : Hid (dSet C.sts H a l = D) := Lib.hid (by rw [hD, hM]; rfl)
  have HM := Lib.hid hM
  have HD := Lib.hid hD
  obtain ⟨sA, scap, rfl, hscap⟩ := RowsAt.slice hC.1
  obtain ⟨lA, lcap, rfl, hlcap⟩ := RowsAt.slice hv
  obtain ⟨hA, hcap, rfl, hhcap⟩ := RowsAt.slice hH
  generalize realS C.sts H l = RL at *
  clear hC hH hv hta hG hM hD g1 g2 hi1 hz1 hs1 hy1
  go_enter Tryz.func14, Tryz.ntmps14
  go_wp2_with fail
  refine anyD_start (fun W => W.cell? ⟨w.heap.size, 0, none⟩ = some (.int .i64 vr) ∧ W.cell? ⟨w.heap.size, 1, none⟩ = some (.slice sA C.sts.length scap) ∧ W.cell? ⟨w.heap.size, 2, none⟩ = some vt) (fun i => [].contains i) (by kernel_rfl) ?_
  have HBX0 : Hid (Blk (w.alloc (chBox vr (.slice sA C.sts.length scap) vt)).drew w.heap.size 25 #[.int .i64 vr, (.slice sA C.sts.length scap), vt]) := Lib.hid (Blk.new w 25 _)
  have HSD : Hid ((w.alloc (chBox vr (.slice sA C.sts.length scap) vt)).drew.cell? ⟨w.heap.size, 0, none⟩ = some (.int .i64 vr) ∧ (w.alloc (chBox vr (.slice sA C.sts.length scap) vt)).drew.cell? ⟨w.heap.size, 1, none⟩ = some (.slice sA C.sts.length scap) ∧ (w.alloc (chBox vr (.slice sA C.sts.length scap) vt)).drew.cell? ⟨w.heap.size, 2, none⟩ = some vt) := Lib.hid HBX0.out.facts3.1
  obtain ⟨w0, hw0⟩ : ∃ w0, w0 = (w.alloc (chBox vr (.slice sA C.sts.length scap) vt)).drew := ⟨_, rfl⟩
  rw [← hw0] at HBX0 HSD ⊢
  have HW0 := Lib.hid hw0
  clear hw0
  refine anyD_load (i := 0) (v := .agg #[.int .i64 vr, .slice sA C.sts.length scap, vt]) rfl (by kernel_rfl) (by kernel_rfl) (by kernel_rfl) (by kernel_rfl) (fun _ _ _ h => h) (Or.inl ⟨by kernel_rfl, fun w hS => by obtain ⟨c0, c1, c2⟩ := hS; go_simp⟩) (HSD.out) ?_
  try simp only [Act.put, List.setIfInBounds_toArray, List.set_cons_zero, List.set_cons_succ, List.getElem_toArray, List.getElem_cons_zero]
  refine anyD_take (i := 1) (v := .slice hA H.length hcap) rfl (by kernel_rfl) (by kernel_rfl) (by kernel_rfl) (fun _ _ _ h => h) (Or.inl ⟨by kernel_rfl, fun w => by go_simp⟩) ?_
  try simp only [Act.put, List.setIfInBounds_toArray, List.set_cons_zero, List.set_cons_succ, List.getElem_toArray, List.getElem_cons_zero, List.getElem_cons_succ]
  refine anyD_take (i := 2) (v := .pointer (some ⟨w.heap.size, 1, none⟩)) rfl (by kernel_rfl) (by kernel_rfl) (by kernel_rfl) (fun _ _ _ h => h) (Or.inl ⟨by kernel_rfl, fun w => by go_simp⟩) ?_
  try simp only [Act.put, List.setIfInBounds_toArray, List.set_cons_zero, List.set_cons_succ, List.getElem_toArray, List.getElem_cons_zero, List.getElem_cons_succ]
  refine anyD_load (i := 3) (v := .slice sA C.sts.length scap) rfl (by kernel_rfl) (by kernel_rfl) (by kernel_rfl) (by kernel_rfl) (fun _ _ _ h => h) (Or.inl ⟨by kernel_rfl, fun w hS => by obtain ⟨c0, c1, c2⟩ := hS; go_simp⟩) (HSD.out) ?_
  try simp only [Act.put, List.setIfInBounds_toArray, List.set_cons_zero, List.set_cons_succ, List.getElem_toArray, List.getElem_cons_zero, List.getElem_cons_succ]
  refine anyD_take (i := 4) (v := .int .i64 (C.sts.length : Int)) rfl (by kernel_rfl) (by kernel_rfl) (by kernel_rfl) (fun _ _ _ h => h) (Or.inl ⟨by kernel_rfl, fun w => by go_simp⟩) ?_
  try simp only [Act.put, List.setIfInBounds_toArray, List.set_cons_zero, List.set_cons_succ, List.getElem_toArray, List.getElem_cons_zero, List.getElem_cons_succ]
  refine anyD_one (i := 5) rfl rfl (by kernel_rfl) (fun K HK => ?_)
  have hmk := HMK.out w0
  go_simp
  refine HK.out _ _ (fun _ hS => (HBX0.out.alloc _).facts3.1) ?_
  clear HK K hmk
  try simp only [Act.put, List.setIfInBounds_toArray, List.set_cons_zero, List.set_cons_succ, List.getElem_toArray, List.getElem_cons_zero, List.getElem_cons_succ]
  refine anyD_take (i := 6) (v := .agg #[.int .i64 vr, .slice sA C.sts.length scap, vt, .slice hA H.length hcap, .slice (some ⟨w0.heap.size, 0, none⟩) C.sts.length C.sts.length]) rfl (by kernel_rfl) (by kernel_rfl) (by kernel_rfl) (fun _ _ _ h => h) (Or.inl ⟨by kernel_rfl, fun w => by go_simp⟩) ?_
  try simp only [Act.put, List.setIfInBounds_toArray, List.set_cons_zero, List.set_cons_succ, List.getElem_toArray, List.getElem_cons_zero, List.getElem_cons_succ]
  refine anyD_one (i := 7) rfl rfl (by kernel_rfl) (fun K HK => ?_)
  go_simp
  refine HK.out _ _ (fun _ hS => ((HBX0.out.alloc _).alloc _).facts3.1) ?_
  clear HK K
  try simp only [Act.put, List.setIfInBounds_toArray, List.set_cons_zero, List.set_cons_succ, List.getElem_toArray, List.getElem_cons_zero, List.getElem_cons_succ]
  refine anyD_take (i := 8) (v := .pointer (some ⟨w0.heap.size + 1, 0, none⟩)) rfl (by kernel_rfl) (by kernel_rfl) (by kernel_rfl) (fun _ _ _ h => h) (Or.inl ⟨by kernel_rfl, fun w => by go_simp⟩) ?_
  try simp only [Act.put, List.setIfInBounds_toArray, List.set_cons_zero, List.set_cons_succ, List.getElem_toArray, List.getElem_cons_zero, List.getElem_cons_succ]
  refine anyD_done (by kernel_rfl) ?_
  have HBW : Hid (Below w.heap.size w w0) := Lib.hid (by rw [HW0.out]; exact (below_box w _).drew)
  have HN := Lib.hid (HENT.out w0 HBW.out)
  have HBL : Hid (w.heap.size < w0.heap.size) := Lib.hid (by rw [HW0.out]; show _ < (w.alloc _).heap.size; simp)
  have HE0 : Hid (DAt w0 vr (.slice sA C.sts.length scap) vt (.slice hA H.length hcap) C.sts.length (fun _ => false) ((w0.alloc (.cells (madeCells #[.bool false] C.sts.length) 4)).alloc (.cells #[.int .i64 vr, (.slice sA C.sts.length scap), vt, .slice hA H.length hcap, .slice (some ⟨w0.heap.size, 0, none⟩) C.sts.length C.sts.length] 72))) := Lib.hid (by
    refine ⟨(below_box w0 _).trans ((below_box _ _).mono (by simp)), Blk.new_at (w0.alloc _) 72 _ _ (by simp), _, (Blk.new w0 4 _).alloc _, by simp [madeCells], fun i hi => ?_⟩
    simp [madeCells, hi, Nat.mod_one])
  have HL0 : Hid (LiAt (fun b => b ≠ w0.heap.size) ((w0.alloc (.cells (madeCells #[.bool false] C.sts.length) 4)).alloc (.cells #[.int .i64 vr, (.slice sA C.sts.length scap), vt, .slice hA H.length hcap, .slice (some ⟨w0.heap.size, 0, none⟩) C.sts.length C.sts.length] 72)) (.slice lA l.length lcap) l) := Lib.hid (list_in0 (HLV.out.below HBW.out) ((below_box w0 _).trans ((below_box _ _).mono (by simp))))
  clear HW0 HSD HENT
  go_wp2_with fail
  go_loopw [10] (fun i wr => ∃ (k : Nat) (A2 : Nat → Bool), k ≤ l.length ∧ i = .int .i64 (k : Int) ∧ Hid (DAt w0 vr (.slice sA C.sts.length scap) vt (.slice hA H.length hcap) C.sts.length A2 wr) ∧ Hid (LiAt (fun b => b ≠ w0.heap.size) wr (.slice lA l.length lcap) l) ∧ Hid (M = (l.drop k).foldl (dB C.sts H (C.sts.length + 2)) A2)) (fun i _ => l.length - (intOf i).toNat)
  case atStart => exact ⟨0, _, Nat.zero_le _, rfl, HE0, HL0, HM⟩
  case round =>
    clear HE0 HL0 HM
    obtain ⟨k, A2, hk, rfl, HE, HL, HR⟩ := hrel
    obtain ⟨wo, rfl⟩ : ∃ wo : World, wo = wr := ⟨_, rfl⟩
    by_cases hlt : k < l.length
    · obtain ⟨mb, mo, hmA, hmbl, hmc0, hmne⟩ := (let ⟨_, _, h1, _, h3⟩ := HL.out; by injection h1 with e1 e2 e3; subst e1; exact h3 k _ (List.getElem?_eq_getElem hlt) : ∃ b o, lA = some ⟨b, o, none⟩ ∧ b < wo.heap.size ∧ (IntAt wo b (o + k * 1) l[k]) ∧ _)
      subst hmA
      have d0 : wo.cell? ⟨mb, mo + k, none⟩ = some (.int .i64 l[k]) := by have := hmc0; unfold IntAt at this; rwa [Nat.mul_one] at this
      have hRK := HR.out
      rw [List.drop_eq_getElem_cons hlt, List.foldl_cons] at hRK
      have HRK := Lib.hid hRK
      have HAT : Hid (l[k]? = some l[k]) := Lib.hid (List.getElem?_eq_getElem hlt)
      have HMEM : Hid (l[k] ∈ l) := Lib.hid (List.getElem_mem hlt)
      generalize l[k] = x at *
      clear hmc0 hmne hRK HR
      cases hisx : isSt C.sts x with
      | false =>
        have HISX := Lib.hid hisx
        rw [dB_none _ _ hisx] at HRK
        clear hisx
        go_wp2_with fail
        clear d0
        refine anyD_start (fun W => (W.cell? ⟨w.heap.size, 0, none⟩ = some (.int .i64 vr) ∧ W.cell? ⟨w.heap.size, 1, none⟩ = some (.slice sA C.sts.length scap) ∧ W.cell? ⟨w.heap.size, 2, none⟩ = some vt) ∧ W.cell? ⟨mb, mo + k, none⟩ = some (.int .i64 x)) (fun i => [].contains i) (by kernel_rfl) ?_
        have HED := Lib.hid HE.out.drew
        have HLD := Lib.hid (HL.out.below (Below.refl _ wo).drew)
        have HSD5 : Hid ((wo.drew.cell? ⟨w.heap.size, 0, none⟩ = some (.int .i64 vr) ∧ wo.drew.cell? ⟨w.heap.size, 1, none⟩ = some (.slice sA C.sts.length scap) ∧ wo.drew.cell? ⟨w.heap.size, 2, none⟩ = some vt) ∧ wo.drew.cell? ⟨mb, mo + k, none⟩ = some (.int .i64 x)) := Lib.hid ⟨(HBX0.out.below HED.out.below HBL.out).facts3.1, li_cell HLD.out HAT.out⟩
        refine anyD_load (i := 0) (v := .agg #[.int .i64 vr, .slice sA C.sts.length scap, vt]) rfl (by kernel_rfl) (by kernel_rfl) (by kernel_rfl) (by kernel_rfl) (fun _ _ _ h => h) (Or.inl ⟨by kernel_rfl, fun w hS => by obtain ⟨⟨c0, c1, c2⟩, c3⟩ := hS; go_simp⟩) (HSD5.out) ?_
        try simp only [Act.put, List.setIfInBounds_toArray, List.set_cons_zero, List.set_cons_succ, List.getElem_toArray, List.getElem_cons_zero]
        refine anyD_take (i := 1) (v := .slice (some ⟨mb, mo, none⟩) l.length lcap) rfl (by kernel_rfl) (by kernel_rfl) (by kernel_rfl) (fun _ _ _ h => h) (Or.inl ⟨by kernel_rfl, fun w => by go_simp⟩) ?_
        try simp only [Act.put, List.setIfInBounds_toArray, List.set_cons_zero, List.set_cons_succ, List.getElem_toArray, List.getElem_cons_zero, List.getElem_cons_succ]
        refine anyD_take (i := 2) (v := .int .i64 (k : Int)) rfl (by kernel_rfl) (by kernel_rfl) (by kernel_rfl) (fun _ _ _ h => h) (Or.inl ⟨by kernel_rfl, fun w => by go_simp⟩) ?_
        try simp only [Act.put, List.setIfInBounds_toArray, List.set_cons_zero, List.set_cons_succ, List.getElem_toArray, List.getElem_cons_zero, List.getElem_cons_succ]
        refine anyD_take (i := 3) (v := .pointer (some ⟨mb, mo + k, none⟩)) rfl (by kernel_rfl) (by kernel_rfl) (by kernel_rfl) (fun _ _ _ h => h) (Or.inl ⟨by kernel_rfl, fun w => by go_simp⟩) ?_
        try simp only [Act.put, List.setIfInBounds_toArray, List.set_cons_zero, List.set_cons_succ, List.getElem_toArray, List.getElem_cons_zero, List.getElem_cons_succ]
        refine anyD_load (i := 4) (v := .int .i64 x) rfl (by kernel_rfl) (by kernel_rfl) (by kernel_rfl) (by kernel_rfl) (fun _ _ _ h => h) (Or.inl ⟨by kernel_rfl, fun w hS => by obtain ⟨⟨c0, c1, c2⟩, c3⟩ := hS; go_simp⟩) (HSD5.out) ?_
        try simp only [Act.put, List.setIfInBounds_toArray, List.set_cons_zero, List.set_cons_succ, List.getElem_toArray, List.getElem_cons_zero, List.getElem_cons_succ]
        refine anyD_one (i := 5) rfl rfl (by kernel_rfl) (fun K HK => ?_)
        go_simp
        refine (there_any vr x _ vt C _ (HN.out.has.below HED.out.below) (by have := HN.out.tame.len; omega)).mono ?_
        rintro e w6 ⟨rfl, hb6⟩
        have HE6 := Lib.hid (HED.out.kept hb6)
        have HL6 := Lib.hid (HLD.out.below hb6)
        rw [HISX.out]
        clear hb6
        go_simp
        refine HK.out _ _ (fun _ hS => ⟨(HBX0.out.below HE6.out.below HBL.out).facts3.1, li_cell HL6.out HAT.out⟩) ?_
        clear HK K
        try simp only [Act.put, List.setIfInBounds_toArray, List.set_cons_zero, List.set_cons_succ, List.getElem_toArray, List.getElem_cons_zero, List.getElem_cons_succ]
        refine anyD_done (by kernel_rfl) ?_
        go_wp2_with fail
        go_roundw
        case rel => exact ⟨k + 1, A2, by omega, by go_num, HE6, HL6, HRK⟩
        case measure => simp [intOf]; omega
      | true =>
        have HISX := Lib.hid hisx
        clear hisx
        go_wp2_with fail
        clear d0
        refine anyD_start (fun W => (W.cell? ⟨w.heap.size, 0, none⟩ = some (.int .i64 vr) ∧ W.cell? ⟨w.heap.size, 1, none⟩ = some (.slice sA C.sts.length scap) ∧ W.cell? ⟨w.heap.size, 2, none⟩ = some vt) ∧ W.cell? ⟨mb, mo + k, none⟩ = some (.int .i64 x)) (fun i => [].contains i) (by kernel_rfl) ?_
        have HED := Lib.hid HE.out.drew
        have HLD := Lib.hid (HL.out.below (Below.refl _ wo).drew)
        have HSD5 : Hid ((wo.drew.cell? ⟨w.heap.size, 0, none⟩ = some (.int .i64 vr) ∧ wo.drew.cell? ⟨w.heap.size, 1, none⟩ = some (.slice sA C.sts.length scap) ∧ wo.drew.cell? ⟨w.heap.size, 2, none⟩ = some vt) ∧ wo.drew.cell? ⟨mb, mo + k, none⟩ = some (.int .i64 x)) := Lib.hid ⟨(HBX0.out.below HED.out.below HBL.out).facts3.1, li_cell HLD.out HAT.out⟩
        refine anyD_load (i := 0) (v := .agg #[.int .i64 vr, .slice sA C.sts.length scap, vt]) rfl (by kernel_rfl) (by kernel_rfl) (by kernel_rfl) (by kernel_rfl) (fun _ _ _ h => h) (Or.inl ⟨by kernel_rfl, fun w hS => by obtain ⟨⟨c0, c1, c2⟩, c3⟩ := hS; go_simp⟩) (HSD5.out) ?_
        try simp only [Act.put, List.setIfInBounds_toArray, List.set_cons_zero, List.set_cons_succ, List.getElem_toArray, List.getElem_cons_zero]
        refine anyD_take (i := 1) (v := .slice (some ⟨mb, mo, none⟩) l.length lcap) rfl (by kernel_rfl) (by kernel_rfl) (by kernel_rfl) (fun _ _ _ h => h) (Or.inl ⟨by kernel_rfl, fun w => by go_simp⟩) ?_
        try simp only [Act.put, List.setIfInBounds_toArray, List.set_cons_zero, List.set_cons_succ, List.getElem_toArray, List.getElem_cons_zero, List.getElem_cons_succ]
        refine anyD_take (i := 2) (v := .int .i64 (k : Int)) rfl (by kernel_rfl) (by kernel_rfl) (by kernel_rfl) (fun _ _ _ h => h) (Or.inl ⟨by kernel_rfl, fun w => by go_simp⟩) ?_
        try simp only [Act.put, List.setIfInBounds_toArray, List.set_cons_zero, List.set_cons_succ, List.getElem_toArray, List.getElem_cons_zero, List.getElem_cons_succ]
        refine anyD_take (i := 3) (v := .pointer (some ⟨mb, mo + k, none⟩)) rfl (by kernel_rfl) (by kernel_rfl) (by kernel_rfl) (fun _ _ _ h => h) (Or.inl ⟨by kernel_rfl, fun w => by go_simp⟩) ?_
        try simp only [Act.put, List.setIfInBounds_toArray, List.set_cons_zero, List.set_cons_succ, List.getElem_toArray, List.getElem_cons_zero, List.getElem_cons_succ]
        refine anyD_load (i := 4) (v := .int .i64 x) rfl (by kernel_rfl) (by kernel_rfl) (by kernel_rfl) (by kernel_rfl) (fun _ _ _ h => h) (Or.inl ⟨by kernel_rfl, fun w hS => by obtain ⟨⟨c0, c1, c2⟩, c3⟩ := hS; go_simp⟩) (HSD5.out) ?_
        try simp only [Act.put, List.setIfInBounds_toArray, List.set_cons_zero, List.set_cons_succ, List.getElem_toArray, List.getElem_cons_zero, List.getElem_cons_succ]
        refine anyD_one (i := 5) rfl rfl (by kernel_rfl) (fun K HK => ?_)
        go_simp
        refine (there_any vr x _ vt C _ (HN.out.has.below HED.out.below) (by have := HN.out.tame.len; omega)).mono ?_
        rintro e w6 ⟨rfl, hb6⟩
        have HE6 := Lib.hid (HED.out.kept hb6)
        have HL6 := Lib.hid (HLD.out.below hb6)
        rw [HISX.out]
        clear hb6
        go_simp
        refine HK.out _ _ (fun _ hS => ⟨(HBX0.out.below HE6.out.below HBL.out).facts3.1, li_cell HL6.out HAT.out⟩) ?_
        clear HK K
        try simp only [Act.put, List.setIfInBounds_toArray, List.set_cons_zero, List.set_cons_succ, List.getElem_toArray, List.getElem_cons_zero, List.getElem_cons_succ]
        refine anyD_done (by kernel_rfl) ?_
        have d6 := li_cell HL6.out HAT.out
        go_wp2_with fail
        refine ((down_ok HN.out (C.sts.length + 2)) x A2 _ HISX.out (rk_lt2 HISX.out) HE6.out).mono ?_
        rintro e w7 ⟨rfl, hg7, he7⟩
        have HE7 := Lib.hid he7
        have HL7 := Lib.hid (HL6.out.grown hg7 fun b _ hb h => hb (by injection h))
        clear hg7 he7 d6
        go_wp2
        go_roundw
        case rel => exact ⟨k + 1, _, by omega, by go_num, HE7, HL7, HRK⟩
        case measure => simp [intOf]; omega
    · obtain rfl : k = l.length := by omega
      have hR := HR.out
      rw [List.drop_length, List.foldl_nil] at hR
      have HRR := Lib.hid hR
      clear hR
      have HRL := Lib.hid (HRA.out wo (HBW.out.trans (HE.out.below.mono HBW.out.size)))
      obtain ⟨z0, z1, z2⟩ := (HBX0.out.below HE.out.below HBL.out).facts3.1
      go_wp2_with fail
      refine HRL.out.mono ?_
      rintro e w3 ⟨hb3, v3, rfl, ho3⟩
      have HE2 := Lib.hid (HE.out.kept hb3)
      rw [← HRR.out] at HE2
      have HL2 : Hid (LiAt (fun b => b ≠ w0.heap.size) w3 v3 RL) := Lib.hid (LiAt.of_own ho3 fun b hb => by have := HE.out.lt; omega)
      obtain ⟨rA, rcap, rfl, hrc⟩ := RowsAt.slice HL2.out
      clear hb3 ho3 HE HRR HRL z0 z1 z2
      go_wp2_with fail
      go_loopw [12] (fun i wr => ∃ (k : Nat) (A2 : Nat → Bool), k ≤ RL.length ∧ i = .int .i64 (k : Int) ∧ Hid (DAt w0 vr (.slice sA C.sts.length scap) vt (.slice hA H.length hcap) C.sts.length A2 wr) ∧ Hid (LiAt (fun b => b ≠ w0.heap.size) wr (.slice rA RL.length rcap) RL) ∧ Hid (D = (RL.drop k).foldl (aboveW C.sts (someD C.sts) addS (dB C.sts H (C.sts.length + 2)) a) A2)) (fun i _ => RL.length - (intOf i).toNat)
      case atStart => exact ⟨0, M, Nat.zero_le _, rfl, HE2, HL2, HD⟩
      case round =>
        clear HE2 HL2 HD HL hlt hk
        obtain ⟨k, A2, hk, rfl, HE, HL, HR⟩ := hrel
        obtain ⟨wo, rfl⟩ : ∃ wo : World, wo = wr := ⟨_, rfl⟩
        by_cases hlt : k < RL.length
        · obtain ⟨mb, mo, hmA, hmbl, hmc0, hmne⟩ := (let ⟨_, _, h1, _, h3⟩ := HL.out; by injection h1 with e1 e2 e3; subst e1; exact h3 k _ (List.getElem?_eq_getElem hlt) : ∃ b o, rA = some ⟨b, o, none⟩ ∧ b < wo.heap.size ∧ (IntAt wo b (o + k * 1) RL[k]) ∧ _)
          subst hmA
          have d0 : wo.cell? ⟨mb, mo + k, none⟩ = some (.int .i64 RL[k]) := by have := hmc0; unfold IntAt at this; rwa [Nat.mul_one] at this
          have hRK := HR.out
          rw [List.drop_eq_getElem_cons hlt, List.foldl_cons] at hRK
          have HRK := Lib.hid hRK
          have HAT : Hid (RL[k]? = some RL[k]) := Lib.hid (List.getElem?_eq_getElem hlt)
          have HMEM : Hid (RL[k] ∈ RL) := Lib.hid (List.getElem_mem hlt)
          generalize RL[k] = x at *
          clear hmc0 hmne hRK HR
          go_wp2_with fail
          refine (above_any' HN.out (down_ok HN.out (C.sts.length + 2)) x a A2 _ (HRV.out x HMEM.out) HE.out (upOk_any HN.out.tame a x _ (by omega))).mono ?_
          rintro e w7 ⟨rfl, hg7, he7⟩
          have HE7 := Lib.hid he7
          have HL7 := Lib.hid (HL.out.grown hg7 fun b _ hb h => hb (by injection h))
          clear hg7 he7
          go_wp2
          go_roundw
          case rel => exact ⟨k + 1, _, by omega, by go_num, HE7, HL7, HRK⟩
          case measure => simp [intOf]; omega
        · obtain rfl : k = RL.length := by omega
          have hR := HR.out
          rw [List.drop_length, List.foldl_nil] at hR
          have HRR := Lib.hid hR
          clear hR
          obtain ⟨c0, c1, c2, c3, c4⟩ := HE.out.cells
          rw [← HRR.out] at HE
          go_wp2_with fail
          refine (bits_any wo HE.out (by omega)).mono ?_
          rintro e w9 ⟨rfl, rfl⟩
          go_wp2_with fail
          go_ret
          exact ⟨ret_int (by rw [HRES.out]), HBW.out.trans (HE.out.below.mono HBW.out.size)⟩
end Go.Proofs.YtdkmloldajhdaaaGreatDoor
