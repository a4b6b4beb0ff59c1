/- The contract of lex.Text: the text of any tokens, or that one may not be. -/
import Derived.Test.YtdeopkjpglkdhaaGreatDoorShelf
import Derived.Test.YtdeopkjpglkdhaaGreatDoorZgen
import Derived.Test.YtdeopkjpglkdhaaGreatDoorZtext
namespace Go.Proofs.YtdeopkjpglkdhaaGreatDoor
open Go.ChangeShapes Go.WideShapes Go.ChangeAt Go.RowKit
set_option linter.unusedVariables false

theorem join_own (w : World) (B : Nat) (v : Value) (ts : List Tk) (hown : w.ownsRow B 9 1 v ts.length (strVals ts)) (hm : ∀ t ∈ ts, mayB t = true) (hn : ∀ t ∈ ts, t.2.1 ≤ 9223372036854775807) (hl : ts.length ≤ 1000000) :
    Calls Tryz.prog 64 #[v, .string ⟨#[32]⟩] w fun e w' => e = .returned (.string (bytes (joinB ts))) ∧ Below w.heap.size w w' := by
  rcases hown.2 with ⟨rfl, h0⟩ | ⟨g, cap, cur, rfl, _, hg, hc, _, hs, ht⟩
  · have : ts = [] := List.eq_nil_of_length_eq_zero h0
    subst this
    refine (Tryz.strings_Join_none none 0 ⟨#[32]⟩ w).mono ?_
    rintro e w' ⟨rfl, rfl⟩
    exact ⟨rfl, Below.refl _ _⟩
  · have hB : Blk w g 9 cur := hg
    have hx : ((ts.map fun t => bytes (textB t)).map fun s => s.data.toList) = ts.map textB := by
      simp [bytes, Function.comp_def]
    have h := Tryz.strings_Join g 0 cap (ts.map fun t => bytes (textB t)) ⟨#[32]⟩ w (fun j x hj => by
        rw [Nat.zero_add, hB.cell]
        rw [List.getElem?_map, Option.map_eq_some_iff] at hj
        obtain ⟨t, htj, rfl⟩ := hj
        have hlt : j < ts.length := (List.getElem?_eq_some_iff.1 htj).1
        have h1 : (strVals ts)[j]? = some (.string (bytes (textB t))) := by unfold strVals; rw [List.getElem?_map, htj]; rfl
        rw [← ht, List.getElem?_take, if_pos (by omega)] at h1
        simpa using h1) hB.lt (by simp; omega) (by simpa using hc) (by
        rw [hx]
        have := join_le (ts.map textB) (fun x hx => by
          obtain ⟨t, ht, rfl⟩ := List.mem_map.1 hx
          exact textB_len (hm t ht) (hn t ht))
        simp at this ⊢
        omega)
    rw [hx, List.length_map] at h
    exact h
set_option maxHeartbeats 2000000 in
set_option maxRecDepth 100000 in
theorem text_any (v : Value) (ts : List Tk) (w : World) (hL : Laid w) (hv : ToksAt w v ts) (hn : ∀ t ∈ ts, t.2.1 ≤ 9223372036854775807) (hl : ts.length ≤ 1000000) :
    Calls Tryz.prog 53 #[v] w (TextPost ts w) := by
  obtain ⟨i0, hi, hz0, hz1, hz2⟩ := info_parts Tryz.info9
  have hmk := fun W => run_make (P := Tryz.prog) W 56 9 i0 _ Tryz.underlying56 hi hz0 .i64 .i64 0 (ts.length : Int) (Int.le_refl _) (by omega) (by rw [hz2]; omega) (by omega)
  simp only [Int.toNat_natCast, hz1, Nat.mul_one, Int.toNat_zero] at hmk
  have HI := Lib.hid hi
  have HZ0 := Lib.hid hz0
  have HZ1 := Lib.hid hz1
  have HZ2 := Lib.hid hz2
  have HN := Lib.hid hn
  have HV := Lib.hid hv
  clear hi hz0 hz1 hz2 hn
  clear HV
  obtain ⟨A, cap, rfl, hc, hel⟩ := hv
  have HE := Lib.hid hel
  clear hel
  go_enter Tryz.func53, Tryz.ntmps53
  go_wp2
  go_loopw [4, 12] (fun v i wr => ∃ k : Nat, k ≤ ts.length ∧ i = .int .i64 (k : Int) ∧ Hid (∀ t ∈ ts.take k, mayB t = true) ∧ Below w.heap.size w wr ∧ Hid (wr.ownsRow w.heap.size 9 1 v (ts.take k).length (strVals (ts.take k)))) (fun _ i _ => ts.length - (intOf i).toNat)
  case atStart => exact ⟨0, Nat.zero_le _, rfl, Lib.hid (by simp), (Below.refl _ _).alloc (Nat.le_refl _) _, Lib.hid (World.ownsRow_made w _ ts.length (Nat.le_refl _) (by unfold maxLen; omega) (by rw [size_madeCells, Nat.mul_one]))⟩
  case round =>
    obtain ⟨k, hk, rfl, hall, hb, hown⟩ := hrel
    obtain ⟨wo, rfl⟩ : ∃ wo : World, wo = wr := ⟨_, rfl⟩
    have HL := Lib.hid (hL.after hb)
    by_cases hlt : k < ts.length
    · obtain ⟨b, o, rfl, hbw, c0, c1, c2⟩ := HE.out k ts[k] (List.getElem?_eq_getElem hlt)
      have c0 : wo.cell? ⟨b, o + k * 3, none⟩ = _ := (hb.cell (p := ⟨b, _, none⟩) hbw).trans c0
      have c1 : wo.cell? ⟨b, o + k * 3 + 1, none⟩ = _ := (hb.cell (p := ⟨b, _, none⟩) hbw).trans c1
      have c2 : wo.cell? ⟨b, o + k * 3 + 2, none⟩ = _ := (hb.cell (p := ⟨b, _, none⟩) hbw).trans c2
      have HT := Lib.hid (List.take_succ_eq_append_getElem hlt)
      have HM := Lib.hid (List.getElem_mem hlt)
      have HB := Lib.hid (HN.out ts[k] (List.getElem_mem hlt))
      generalize ts[k] = t at *
      have hb1 : Below wo.heap.size wo (wo.alloc (.cells #[.int .i64 t.1, .int .i64 t.2.1, .int .i64 t.2.2] 40)) := (Below.refl _ _).alloc (Nat.le_refl _) _
      have HB1 := Lib.hid hb1
      clear hb1
      cases hm : mayB t with
      | false =>
        have hm' : mayB (t.1, t.2.1, t.2.2) = false := hm
        clear hm
        go_wp2_with fail
        refine (mayBe_any _ _ _ _).mono ?_
        rintro e w1 ⟨rfl, hb2⟩
        rw [hm']
        have HX := Lib.hid ((hb.trans (HB1.out.mono hb.size)).trans (hb2.mono (by simp; have := hb.size; omega)))
        go_wp2
        go_ret2
        exact ⟨HX.out, .inr ⟨fun h => Bool.false_ne_true ((show mayB t = false from hm').symm.trans (h t HM.out)), rfl⟩⟩
      | true =>
        have hm' : mayB (t.1, t.2.1, t.2.2) = true := hm
        have HMM := Lib.hid hm
        clear hm
        go_wp2_with fail
        refine (mayBe_any _ _ _ _).mono ?_
        rintro e w1 ⟨rfl, hb2⟩
        rw [hm']
        have HB2 := Lib.hid hb2
        obtain ⟨hc1, hf1⟩ := bcell hb2
        have HX := Lib.hid ((hb.trans (HB1.out.mono hb.size)).trans (hb2.mono (by simp; have := hb.size; omega)))
        have HO := Lib.hid (own_below (own_below hown.out HB1.out) hb2)
        have HL1 := Lib.hid (hL.after HX.out)
        go_wp2_with fail
        refine (textOf_any t _ HL1.out HMM.out HB.out).mono ?_
        rintro e w2 ⟨rfl, hb3⟩
        have HY := Lib.hid (HX.out.trans (hb3.mono HX.out.size))
        have HO2 := Lib.hid (own_below HO.out hb3)
        have Q3 := Lib.hid (show (ts.take k).length + 1 ≤ maxLen by unfold maxLen; simp; omega)
        have Q4 := Lib.hid (show ((ts.take k).length + 1) * 16 ≤ 140737488355328 by simp; omega)
        have Q5 := Lib.hid (show ∀ o : Obj, w.heap.size ≤ (w2.alloc o).heap.size from fun o => by simp; have := HY.out.size; omega)
        clear hc1 hf1 hb2 hb3
        go_wp2_with (at_builtin; refine wpList_append_own_at _ rfl _ _ 56 rfl w.heap.size 9 i0 (.string ⟨#[]⟩) 1 16 Tryz.underlying56 HI.out HZ0.out HZ1.out HZ2.out rfl (by decide) _ _ _ rfl (HO2.out.alloc _) ⟨w2.heap.size, 0, none⟩ 1 1 [.string (bytes (textB t))] rfl rfl (new_str w2 _) (str_one _) Q3.out Q4.out (Q5.out _) ?_; intro v' w3 hown' hgrow _ _)
        have HG := Lib.hid ((HY.out.alloc HY.out.size _).grown hgrow (by simp; have := HY.out.size; omega) (fun g hg => (HO2.out.lt g hg).1))
        have HO' := Lib.hid hown'
        clear hown' hgrow
        go_wp2
        go_roundw
        case rel => exact ⟨k + 1, by omega, by go_num, Lib.hid (by rw [HT.out]; intro x hx; rcases List.mem_append.1 hx with h | h; exact hall.out x h; obtain rfl := List.mem_singleton.1 h; exact HMM.out), HG.out, Lib.hid (by rw [HT.out, strVals_snoc, List.length_append]; exact HO'.out)⟩
        case measure => simp [intOf]; omega
    · obtain rfl : k = ts.length := by omega
      have hall' := hall.out
      rw [List.take_length] at hall'
      have hown' := hown.out
      rw [List.take_length] at hown'
      have HA := Lib.hid hall'
      have HO := Lib.hid hown'
      clear hall hown hall' hown'
      go_wp2_with (go_at_call 64; refine (join_own _ _ _ ts HO.out HA.out HN.out hl).mono ?_; rintro e w1 ⟨rfl, hb1⟩)
      go_ret2
      exact ⟨hb.trans (hb1.mono hb.size), .inl ⟨HA.out, rfl⟩⟩
end Go.Proofs.YtdeopkjpglkdhaaGreatDoor
