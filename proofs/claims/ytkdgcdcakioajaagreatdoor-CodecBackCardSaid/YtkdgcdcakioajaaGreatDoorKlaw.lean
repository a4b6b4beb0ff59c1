/- The walk of the law CodecBack: true for any chart and any bytes. -/
import Derived.Test.YtkdgcdcakioajaaGreatDoorKup
import Derived.Test.YtkdgcdcakioajaaGreatDoorKsm
import Derived.Test.YtkdgcdcakioajaaGreatDoorCarg
import Derived.Laws.AppendOwnNone
namespace Go.Proofs.YtkdgcdcakioajaaGreatDoor
open Go.ChangeShapes Go.WideShapes Go.ChangeAt Go.RowKit
set_option linter.unusedVariables false

section
variable {H : Type} {enc : TypeId × Value → H} {W : World} {base : Nat}
theorem k5 : Tryz.prog.cellsOf 5 = 1 := by kernel_rfl
set_option maxRecDepth 100000 in
/-- the bytes that an argument holds -/
theorem bytes_of_arg {v : Value} {d : DataW H} {ps : List MemPlace} (hv : Value.okWide Tryz.prog W .any base 26 v) (h : DataW.Trod enc Tryz.prog W 0 (fun _ => true) true 26 v d ps) :
    ∃ l : List UInt8, BytesAt W v l ∧ Short l.length ∧ (v = .slice none 0 0 ∨ ∃ a cap, v = .slice (some a) l.length cap) := by
  obtain ⟨fuel, hf⟩ := h
  obtain ⟨A, len, cap, rfl⟩ := okWide_slice Tryz.underlying26 hv
  have hf' : DataW.trod enc Tryz.prog W 0 (fun _ => true) true fuel 26 [.slice A len cap] = some (d, ps) := by simpa [Value.cells] using hf
  obtain ⟨xs, h1, _, h2⟩ := rows_of (P := ByteAt) (G := fun _ => True) (n := 1) Tryz.underlying26 k5 (by decide) (fun b o fuel cs y hc ht => by
    obtain ⟨k, hk, _, hw⟩ := DataW.trod_int Tryz.underlying5 ht
    subst hk
    simp [Lit.wf] at hw
    have hmin : IntKind.u8.min = 0 := by decide
    have hmax : IntKind.u8.max = 255 := by decide
    have := (cells_at hc).2 0 (by decide)
    refine ⟨UInt8.ofNat k.toNat, ?_, trivial⟩
    unfold ByteAt
    rw [UInt8.toNat_ofNat', Nat.mod_eq_of_lt (by omega), show ((k.toNat : Nat) : Int) = k by omega]
    exact this) hf'
  obtain ⟨A', cap', hs, _⟩ := RowsAt.slice h1
  injection hs with e1 e2 e3
  refine ⟨xs, h1, h2, ?_⟩
  rcases Deep.open_slice Tryz.underlying26 hf' with ⟨h0, _⟩ | ⟨a, len', cap2, m, n, D, Pl, hcs, _⟩
  · simp only [List.cons.injEq, and_true] at h0
    exact .inl h0
  · simp only [List.cons.injEq, and_true] at hcs
    injection hcs with q1 q2 q3
    exact .inr ⟨a, cap, by rw [q1, e2]⟩
end
theorem eql_code_nil6 (p : Value) (w : World) : (binOp .eql 30 (.iface 42 p) .nilIface).run Tryz.prog w = .ok (.bool false) w := by kernel_rfl
theorem eql_spot_nil6 (p : Value) (w : World) : (binOp .eql 30 (.iface 51 p) .nilIface).run Tryz.prog w = .ok (.bool false) w := by kernel_rfl
set_option maxHeartbeats 1000000 in
set_option maxRecDepth 100000 in
/-- a chart, or bytes, that are too large -/
theorem law_far (vs vt vin : Value) (C : Ch) (l : List UInt8) (w : World) (hL : Laid w) (hC : ChHas w vs vt C) (hS : ShortCh C) (hA : BytesAt w vin l) (hSl : Short l.length) (hfar : fewB C = false ∨ 20000 < l.length) (hN : vin = .slice none 0 0 ∨ ∃ a cap, vin = .slice (some a) l.length cap) :
    Calls Tryz.prog 3 #[.agg #[.int .i64 C.vars, vs, vt], vin] w fun e w' => e = .returned (.bool true) ∧ Below w.heap.size w w' := by
  obtain ⟨i0, hi, hz0, hz1, hz2⟩ := info_parts Tryz.info5
  have HI := Lib.hid hi
  have HZ0 := Lib.hid hz0
  have HZ1 := Lib.hid hz1
  have HZ2 := Lib.hid hz2
  have HL := Lib.hid hL
  have HL0 := Lib.hid (hL.after (below_box w (chBox C.vars vs vt)))
  have HFW := Lib.hid (fun (W : World) (h : Below (w.alloc (chBox C.vars vs vt)).heap.size (w.alloc (chBox C.vars vs vt)) W) => few_any C.vars vs vt C W (hC.below (below_boxed h)) hS)
  have HC := Lib.hid hC
  have HA := Lib.hid hA
  unfold Short at hSl
  have hnn := neq_nil_nil
  have hen := eql_nil2
  have hnc := fun p W => neq_code_any p W
  have hns := fun p W => neq_spot_any p W
  have hec := fun p W => eql_code_nil6 p W
  have hes := fun p W => eql_spot_nil6 p W
  clear hi hz0 hz1 hz2 hL hC hS hA
  obtain ⟨A, len, cap, hvin, hlen⟩ : ∃ A len cap, vin = .slice A len cap ∧ len = l.length := by
    obtain ⟨A, cap, h, _⟩ := id HA.out
    exact ⟨A, _, cap, h, rfl⟩
  subst hvin
  subst hlen
  cases hf : fewB C with
  | false =>
    have HF := Lib.hid hf
    clear hf hfar
    go_enter Tryz.func3, Tryz.ntmps3
    go_wp2_with fail
    refine (up_any _ HL0.out).mono ?_
    rintro e w1 ⟨rfl, hb1⟩
    obtain ⟨x0, x1, x2⟩ := box_later hb1
    have HB1 := Lib.hid hb1
    clear hb1
    go_wp2_with fail
    refine (HFW.out _ HB1.out).mono ?_
    rintro e w2 ⟨rfl, hb2⟩
    have HB2 := Lib.hid (HB1.out.trans (hb2.mono HB1.out.size))
    clear x0 x1 x2
    obtain ⟨x0, x1, x2⟩ := box_later HB2.out
    rw [HF.out]
    clear hb2
    go_wp2_with fail
    go_ret
    exact ⟨rfl, below_boxed HB2.out⟩
  | true =>
    have HF := Lib.hid hf
    have hz : decide ((20000 : Int) < (l.length : Int)) = true := by rw [hf] at hfar; simp at hfar ⊢; omega
    clear hf hfar
    go_enter Tryz.func3, Tryz.ntmps3
    go_wp2_with fail
    refine (up_any _ HL0.out).mono ?_
    rintro e w1 ⟨rfl, hb1⟩
    obtain ⟨x0, x1, x2⟩ := box_later hb1
    have HB1 := Lib.hid hb1
    clear hb1
    go_wp2_with fail
    refine (HFW.out _ HB1.out).mono ?_
    rintro e w2 ⟨rfl, hb2⟩
    have HB2 := Lib.hid (HB1.out.trans (hb2.mono HB1.out.size))
    clear x0 x1 x2
    obtain ⟨x0, x1, x2⟩ := box_later HB2.out
    rw [HF.out]
    clear hb2
    go_wp2_with fail
    go_ret
    exact ⟨rfl, below_boxed HB2.out⟩
theorem bytes_add {W : World} {a : Addr} {len cap : Nat} {l : List UInt8} (h : BytesAt W (.slice (some a) len cap) l) : ∀ j u, (Lib.byteCells l)[j]? = some u → W.cell? (a.add j) = some u := by
  intro j u hu
  obtain ⟨A, cap', hv, _, hi⟩ := h
  unfold Lib.byteCells at hu
  rw [List.getElem?_map] at hu
  obtain ⟨x, hx, rfl⟩ := Option.map_eq_some_iff.1 hu
  obtain ⟨b, o, hA, _, hc⟩ := hi j x hx
  injection hv with hv
  rw [← hv] at hA
  injection hA with hA
  subst hA
  unfold ByteAt at hc
  rw [flat_add]
  rw [Nat.mul_one] at hc
  exact hc
set_option maxHeartbeats 2000000 in
set_option maxRecDepth 100000 in
/-- a chart that may not be -/
theorem law_bad (vs vt vin : Value) (C : Ch) (l : List UInt8) (w : World) (hL : Laid w) (hC : ChHas w vs vt C) (hS : ShortCh C) (hA : BytesAt w vin l) (hSl : Short l.length) (hf : fewB C = true) (hok : chk hasTB C ≠ .ok) (hl : l.length ≤ 20000) (hN : vin = .slice none 0 0 ∨ ∃ a cap, vin = .slice (some a) l.length cap) :
    Calls Tryz.prog 3 #[.agg #[.int .i64 C.vars, vs, vt], vin] w fun e w' => e = .returned (.bool true) ∧ Below w.heap.size w w' := by
  obtain ⟨i0, hi, hz0, hz1, hz2⟩ := info_parts Tryz.info5
  have HI := Lib.hid hi
  have HZ0 := Lib.hid hz0
  have HZ1 := Lib.hid hz1
  have HZ2 := Lib.hid hz2
  have HL := Lib.hid hL
  have HL0 := Lib.hid (hL.after (below_box w (chBox C.vars vs vt)))
  have HFW := Lib.hid (fun (W : World) (h : Below (w.alloc (chBox C.vars vs vt)).heap.size (w.alloc (chBox C.vars vs vt)) W) => few_any C.vars vs vt C W (hC.below (below_boxed h)) hS)
  have HC := Lib.hid hC
  have HA := Lib.hid hA
  unfold Short at hSl
  have hnn := neq_nil_nil
  have hen := eql_nil2
  have hnc := fun p W => neq_code_any p W
  have hns := fun p W => neq_spot_any p W
  have hec := fun p W => eql_code_nil6 p W
  have hes := fun p W => eql_spot_nil6 p W
  clear hi hz0 hz1 hz2 hL hC hS hA
  have HF := Lib.hid hf
  have HK := Lib.hid hok
  have hz : decide ((20000 : Int) < (l.length : Int)) = false := by simp; omega
  clear hf hok
  rcases hN with rfl | ⟨a, cap, rfl⟩
  · obtain rfl : l = [] := by
      obtain ⟨A, cap, h, _⟩ := HA.out
      injection h with _ h2
      exact List.eq_nil_of_length_eq_zero h2.symm
    go_enter Tryz.func3, Tryz.ntmps3
    go_wp2_with fail
    refine (up_any _ HL0.out).mono ?_
    rintro e w1 ⟨rfl, hb1⟩
    obtain ⟨x0, x1, x2⟩ := box_later hb1
    have HB1 := Lib.hid hb1
    clear hb1
    go_wp2_with fail
    refine (HFW.out _ HB1.out).mono ?_
    rintro e w2 ⟨rfl, hb2⟩
    have HB2 := Lib.hid (HB1.out.trans (hb2.mono HB1.out.size))
    clear x0 x1 x2
    obtain ⟨x0, x1, x2⟩ := box_later HB2.out
    rw [HF.out]
    clear hb2
    go_wp2_with fail
    refine (put_any C vs vt w2 (HL.out.after (below_boxed HB2.out)) (HC.out.below (below_boxed HB2.out)) HF.out).mono ?_
    intro e w3 hp
    obtain ⟨hb3, ⟨hk, _⟩ | ⟨_, p, hp⟩⟩ := hp
    · exact absurd hk HK.out
    obtain ⟨t, p, rfl, htn⟩ : ∃ t p, e = .returned (.tuple #[.slice none 0 0, .iface t p]) ∧ ∀ W, (binOp .eql 30 (.iface t p) .nilIface).run Tryz.prog W = .ok (.bool false) W := by
      rcases hp with rfl | rfl
      · exact ⟨42, p, rfl, hec p⟩
      · exact ⟨51, p, rfl, hes p⟩
    have HB3 := Lib.hid (HB2.out.trans (hb3.mono HB2.out.size))
    clear x0 x1 x2 hb3 hp
    obtain ⟨x0, x1, x2⟩ := box_later HB3.out
    have ho0 : OwnsB w3.heap.size (w3.alloc (.cells #[] 5)) (.slice (some ⟨w3.heap.size, 0, none⟩) 0 0) [] := World.ownsRow_made w3 #[] 0 (Nat.le_refl _) (by unfold maxLen; omega) rfl
    have HO0 := Lib.hid ho0
    have HX0 := Lib.hid (HB3.out.alloc HB3.out.size (.cells #[] 5))
    clear ho0
    go_wp2_with (at_builtin; refine wpList_append_own_none rfl _ _ 26 rfl w3.heap.size 5 i0 1 Tryz.underlying26 HI.out (.slice (some ⟨w3.heap.size, 0, none⟩) 0 0) 0 [] rfl HO0.out rfl ?_)
    have HX := HX0
    have HOW := Lib.hid (BytesAt.of_own HO0.out)
    refine (get_any _ [] _ (HL.out.after (below_boxed HX.out)) HOW.out (by (try simp only [List.length_nil]); omega)).mono ?_
    intro e wy hp
    generalize hga : getA hasTB [] = ga at hp
    cases ga with
    | ok D =>
      have h0 := get0.symm.trans hga
      cases h0
    | large =>
      obtain ⟨hby, he⟩ := hp
      have he' : e = .returned (.tuple #[.agg #[.int .i64 0, .slice none 0 0, .slice none 0 0], .iface 42 (.int .i64 3)]) := he
      subst he'
      have HY := Lib.hid (HX.out.trans (hby.mono HX.out.size))
      have HYB := Lib.hid (HY.out.alloc HY.out.size (chBox 0 (.slice none 0 0) (.slice none 0 0)))
      have hc1 := conv_bytes ((HOW.out.below hby).below (below_box wy (chBox 0 (.slice none 0 0) (.slice none 0 0))))
      have hc2 := conv_bytes (HA.out.below (below_boxed HYB.out))
      clear hby he
      go_wp2_with fail
      go_ret
      exact ⟨rfl, below_boxed HYB.out⟩
    | spot k c =>
      obtain ⟨hby, q, he, _, _⟩ := hp
      have he' : e = .returned (.tuple #[.agg #[.int .i64 0, .slice none 0 0, .slice none 0 0], .iface 51 (.pointer (some ⟨q, 0, none⟩))]) := he
      subst he'
      have HY := Lib.hid (HX.out.trans (hby.mono HX.out.size))
      have HYB := Lib.hid (HY.out.alloc HY.out.size (chBox 0 (.slice none 0 0) (.slice none 0 0)))
      have hc1 := conv_bytes ((HOW.out.below hby).below (below_box wy (chBox 0 (.slice none 0 0) (.slice none 0 0))))
      have hc2 := conv_bytes (HA.out.below (below_boxed HYB.out))
      clear hby he
      go_wp2_with fail
      go_ret
      exact ⟨rfl, below_boxed HYB.out⟩
  · have hz := hz
    go_enter Tryz.func3, Tryz.ntmps3
    go_wp2_with fail
    refine (up_any _ HL0.out).mono ?_
    rintro e w1 ⟨rfl, hb1⟩
    obtain ⟨x0, x1, x2⟩ := box_later hb1
    have HB1 := Lib.hid hb1
    clear hb1
    go_wp2_with fail
    refine (HFW.out _ HB1.out).mono ?_
    rintro e w2 ⟨rfl, hb2⟩
    have HB2 := Lib.hid (HB1.out.trans (hb2.mono HB1.out.size))
    clear x0 x1 x2
    obtain ⟨x0, x1, x2⟩ := box_later HB2.out
    rw [HF.out]
    clear hb2
    go_wp2_with fail
    refine (put_any C vs vt w2 (HL.out.after (below_boxed HB2.out)) (HC.out.below (below_boxed HB2.out)) HF.out).mono ?_
    intro e w3 hp
    obtain ⟨hb3, ⟨hk, _⟩ | ⟨_, p, hp⟩⟩ := hp
    · exact absurd hk HK.out
    obtain ⟨t, p, rfl, htn⟩ : ∃ t p, e = .returned (.tuple #[.slice none 0 0, .iface t p]) ∧ ∀ W, (binOp .eql 30 (.iface t p) .nilIface).run Tryz.prog W = .ok (.bool false) W := by
      rcases hp with rfl | rfl
      · exact ⟨42, p, rfl, hec p⟩
      · exact ⟨51, p, rfl, hes p⟩
    have HB3 := Lib.hid (HB2.out.trans (hb3.mono HB2.out.size))
    clear x0 x1 x2 hb3 hp
    obtain ⟨x0, x1, x2⟩ := box_later HB3.out
    have ho0 : OwnsB w3.heap.size (w3.alloc (.cells #[] 5)) (.slice (some ⟨w3.heap.size, 0, none⟩) 0 0) [] := World.ownsRow_made w3 #[] 0 (Nat.le_refl _) (by unfold maxLen; omega) rfl
    have HO0 := Lib.hid ho0
    have HX0 := Lib.hid (HB3.out.alloc HB3.out.size (.cells #[] 5))
    clear ho0
    have HAA := Lib.hid (bytes_add (HA.out.below (below_boxed HX0.out)))
    go_wp2_with (at_builtin; refine wpList_append_own_at _ rfl _ _ 26 rfl w3.heap.size 5 i0 (.int .u8 0) 1 1 Tryz.underlying26 HI.out HZ0.out HZ1.out HZ2.out rfl (by decide) (.slice (some ⟨w3.heap.size, 0, none⟩) 0 0) 0 [] rfl HO0.out a l.length cap (Lib.byteCells l) rfl ?c0 ?c1 ?c2 ?c3 ?c4 ?c5 ?_)
    case c0 => rw [Lib.byteCells_length, Nat.mul_one]
    case c1 => exact HAA.out
    case c2 => exact Lib.byteCells_one l
    case c3 => unfold maxLen; omega
    case c4 => omega
    case c5 => (try simp)
    intro v' wx hown' hgrow _ _
    have ho : OwnsB w3.heap.size wx v' l := by
      unfold OwnsB
      simpa using hown'
    obtain ⟨vA, vcap, rfl⟩ := own_slice ho
    have HX := Lib.hid (Below.grown HX0.out hgrow HX0.out.size (fun g hg => by
      injection hg with hg
      have := HB3.out.size
      simp only at hg
      omega))
    have HOW := Lib.hid (BytesAt.of_own ho)
    clear ho hown' hgrow
    go_wp2_with fail
    refine (get_any _ l _ (HL.out.after (below_boxed HX.out)) HOW.out (by (try simp only [List.length_nil]); omega)).mono ?_
    intro e wy hp
    generalize hga : getA hasTB l = ga at hp
    cases ga with
    | ok D =>
      obtain ⟨hby, ys, yt, he, hch⟩ := hp
      have he' : e = .returned (.tuple #[.agg #[.int .i64 D.vars, ys, yt], .nilIface]) := he
      subst he'
      obtain ⟨henc, hokD, hckD⟩ := put_get hga
      have HDK := Lib.hid (And.intro hokD hckD)
      obtain ⟨yA, ycap, hys, _⟩ := RowsAt.slice hch.1
      obtain ⟨tA, tcap, hyt, _⟩ := RowsAt.slice hch.2
      subst hys
      subst hyt
      have HY := Lib.hid (HX.out.trans (hby.mono HX.out.size))
      have HYB := Lib.hid (HY.out.alloc HY.out.size (chBox D.vars (.slice yA D.sts.length ycap) (.slice tA D.trs.length tcap)))
      have HYC := Lib.hid (Blk.new wy 25 #[.int .i64 D.vars, .slice yA D.sts.length ycap, .slice tA D.trs.length tcap])
      have HDH := Lib.hid (hch.below (below_box wy (chBox D.vars (.slice yA D.sts.length ycap) (.slice tA D.trs.length tcap))))
      have hc1 := conv_bytes ((HOW.out.below hby).below (below_box wy (chBox D.vars (.slice yA D.sts.length ycap) (.slice tA D.trs.length tcap))))
      have hc2 := conv_bytes (HA.out.below (below_boxed HYB.out))
      obtain ⟨⟨y0, y1, y2⟩, -⟩ := HYC.out.facts3
      clear hby he hch hokD hckD
      go_wp2_with fail
      refine (put_any D _ _ _ (HL.out.after (below_boxed HYB.out)) HDH.out (few_of_ok HDK.out.1)).mono ?_
      intro e wz hq
      obtain ⟨hbz, ⟨_, qv, hqe, hown⟩ | ⟨hk, _⟩⟩ := hq
      · rw [henc] at hown
        obtain ⟨qA, qcap, hqs⟩ := own_slice hown
        subst hqs
        subst hqe
        have HZ := Lib.hid (HYB.out.trans (hbz.mono HYB.out.size))
        have hc3 := conv_bytes (BytesAt.of_own hown)
        have hc4 := conv_bytes (HA.out.below (below_boxed HZ.out))
        clear hbz hown hc1 hc2
        go_wp2_with fail
        go_ret
        exact ⟨rfl, below_boxed HZ.out⟩
      · exact absurd HDK.out.2 hk
    | large =>
      obtain ⟨hby, he⟩ := hp
      have he' : e = .returned (.tuple #[.agg #[.int .i64 0, .slice none 0 0, .slice none 0 0], .iface 42 (.int .i64 3)]) := he
      subst he'
      have HY := Lib.hid (HX.out.trans (hby.mono HX.out.size))
      have HYB := Lib.hid (HY.out.alloc HY.out.size (chBox 0 (.slice none 0 0) (.slice none 0 0)))
      have hc1 := conv_bytes ((HOW.out.below hby).below (below_box wy (chBox 0 (.slice none 0 0) (.slice none 0 0))))
      have hc2 := conv_bytes (HA.out.below (below_boxed HYB.out))
      clear hby he
      go_wp2_with fail
      go_ret
      exact ⟨rfl, below_boxed HYB.out⟩
    | spot k c =>
      obtain ⟨hby, q, he, _, _⟩ := hp
      have he' : e = .returned (.tuple #[.agg #[.int .i64 0, .slice none 0 0, .slice none 0 0], .iface 51 (.pointer (some ⟨q, 0, none⟩))]) := he
      subst he'
      have HY := Lib.hid (HX.out.trans (hby.mono HX.out.size))
      have HYB := Lib.hid (HY.out.alloc HY.out.size (chBox 0 (.slice none 0 0) (.slice none 0 0)))
      have hc1 := conv_bytes ((HOW.out.below hby).below (below_box wy (chBox 0 (.slice none 0 0) (.slice none 0 0))))
      have hc2 := conv_bytes (HA.out.below (below_boxed HYB.out))
      clear hby he
      go_wp2_with fail
      go_ret
      exact ⟨rfl, below_boxed HYB.out⟩
set_option maxHeartbeats 2000000 in
set_option maxRecDepth 100000 in
/-- a chart that may be -/
theorem law_good (vs vt vin : Value) (C : Ch) (l : List UInt8) (w : World) (hL : Laid w) (hC : ChHas w vs vt C) (hS : ShortCh C) (hA : BytesAt w vin l) (hSl : Short l.length) (hf : fewB C = true) (hok : chk hasTB C = .ok) (hl : l.length ≤ 20000) (hN : vin = .slice none 0 0 ∨ ∃ a cap, vin = .slice (some a) l.length cap) :
    Calls Tryz.prog 3 #[.agg #[.int .i64 C.vars, vs, vt], vin] w fun e w' => e = .returned (.bool true) ∧ Below w.heap.size w w' := by
  obtain ⟨sA, scap, hvs, _⟩ := RowsAt.slice hC.1
  obtain ⟨tA, tcap, hvt, _⟩ := RowsAt.slice hC.2
  subst hvs
  subst hvt
  obtain ⟨i0, hi, hz0, hz1, hz2⟩ := info_parts Tryz.info5
  have HI := Lib.hid hi
  have HZ0 := Lib.hid hz0
  have HZ1 := Lib.hid hz1
  have HZ2 := Lib.hid hz2
  have HL := Lib.hid hL
  have HL0 := Lib.hid (hL.after (below_box w (chBox C.vars (.slice sA C.sts.length scap) (.slice tA C.trs.length tcap))))
  have HFW := Lib.hid (fun (W : World) (h : Below (w.alloc (chBox C.vars (.slice sA C.sts.length scap) (.slice tA C.trs.length tcap))).heap.size (w.alloc (chBox C.vars (.slice sA C.sts.length scap) (.slice tA C.trs.length tcap))) W) => few_any C.vars (.slice sA C.sts.length scap) (.slice tA C.trs.length tcap) C W (hC.below (below_boxed h)) hS)
  have HC := Lib.hid hC
  have HA := Lib.hid hA
  unfold Short at hSl
  have hnn := neq_nil_nil
  have hen := eql_nil2
  have hnc := fun p W => neq_code_any p W
  have hns := fun p W => neq_spot_any p W
  have hec := fun p W => eql_code_nil6 p W
  have hes := fun p W => eql_spot_nil6 p W
  clear hi hz0 hz1 hz2 hL hC hS hA
  have HF := Lib.hid hf
  have HK := Lib.hid hok
  have HOKC := Lib.hid (okCh_of hasTB_short hok)
  have hz : decide ((20000 : Int) < (l.length : Int)) = false := by simp; omega
  clear hf hok
  rcases hN with rfl | ⟨a, cap, rfl⟩
  · obtain rfl : l = [] := by
      obtain ⟨A, cap, h, _⟩ := HA.out
      injection h with _ h2
      exact List.eq_nil_of_length_eq_zero h2.symm
    go_enter Tryz.func3, Tryz.ntmps3
    go_wp2_with fail
    refine (up_any _ HL0.out).mono ?_
    rintro e w1 ⟨rfl, hb1⟩
    obtain ⟨x0, x1, x2⟩ := box_later hb1
    have HB1 := Lib.hid hb1
    clear hb1
    go_wp2_with fail
    refine (HFW.out _ HB1.out).mono ?_
    rintro e w2 ⟨rfl, hb2⟩
    have HB2 := Lib.hid (HB1.out.trans (hb2.mono HB1.out.size))
    clear x0 x1 x2
    obtain ⟨x0, x1, x2⟩ := box_later HB2.out
    rw [HF.out]
    clear hb2
    go_wp2_with fail
    refine (put_any C _ _ w2 (HL.out.after (below_boxed HB2.out)) (HC.out.below (below_boxed HB2.out)) HF.out).mono ?_
    intro e w3 hp
    obtain ⟨hb3, ⟨_, pv, hpe, hpo⟩ | ⟨hk, _⟩⟩ := hp
    rotate_left
    · exact absurd HK.out hk
    obtain ⟨pA, pcap, hps⟩ := own_slice hpo
    subst hps
    subst hpe
    have HB3 := Lib.hid (HB2.out.trans (hb3.mono HB2.out.size))
    have HP := Lib.hid (BytesAt.of_own hpo)
    clear x0 x1 x2 hb3 hpo
    obtain ⟨x0, x1, x2⟩ := box_later HB3.out
    go_wp2_with fail
    refine (get_any _ (encCh C) w3 (HL.out.after (below_boxed HB3.out)) HP.out (encCh_len HOKC.out)).mono ?_
    intro e w4 hp
    rw [get_put HOKC.out HK.out] at hp
    obtain ⟨hb4, xs, xt, hxe, hxh⟩ := hp
    have hxe' : e = .returned (.tuple #[.agg #[.int .i64 C.vars, xs, xt], .nilIface]) := hxe
    subst hxe'
    obtain ⟨uA, ucap, hxs, _⟩ := RowsAt.slice hxh.1
    obtain ⟨rA, rcap, hxt, _⟩ := RowsAt.slice hxh.2
    subst hxs
    subst hxt
    have HB4 := Lib.hid (HB3.out.trans (hb4.mono HB3.out.size))
    have HB5 := Lib.hid (HB4.out.alloc HB4.out.size (chBox C.vars (.slice uA C.sts.length ucap) (.slice rA C.trs.length rcap)))
    have HXC := Lib.hid (Blk.new w4 25 #[.int .i64 C.vars, .slice uA C.sts.length ucap, .slice rA C.trs.length rcap])
    have HXH := Lib.hid (hxh.below (below_box w4 (chBox C.vars (.slice uA C.sts.length ucap) (.slice rA C.trs.length rcap))))
    clear x0 x1 x2 hb4 hxe hxh
    obtain ⟨x0, x1, x2⟩ := box_later HB5.out
    obtain ⟨⟨z0, z1, z2⟩, -⟩ := HXC.out.facts3
    go_wp2_with fail
    refine (same_any _ _ _ _ _ _ _ _ C _ HXH.out (HC.out.below (below_boxed HB5.out)) HF.out).mono ?_
    rintro e w6 ⟨rfl, hb6⟩
    have HB6 := Lib.hid (HB5.out.trans (hb6.mono HB5.out.size))
    clear hb6 x0 x1 x2 z0 z1 z2
    have ho0 : OwnsB w6.heap.size (w6.alloc (.cells #[] 5)) (.slice (some ⟨w6.heap.size, 0, none⟩) 0 0) [] := World.ownsRow_made w6 #[] 0 (Nat.le_refl _) (by unfold maxLen; omega) rfl
    have HO0 := Lib.hid ho0
    have HX0 := Lib.hid (HB6.out.alloc HB6.out.size (.cells #[] 5))
    clear ho0
    go_wp2_with (at_builtin; refine wpList_append_own_none rfl _ _ 26 rfl w6.heap.size 5 i0 1 Tryz.underlying26 HI.out (.slice (some ⟨w6.heap.size, 0, none⟩) 0 0) 0 [] rfl HO0.out rfl ?_)
    have HX := HX0
    have HOW := Lib.hid (BytesAt.of_own HO0.out)
    refine (get_any _ [] _ (HL.out.after (below_boxed HX.out)) HOW.out (by (try simp only [List.length_nil]); omega)).mono ?_
    intro e wy hp
    generalize hga : getA hasTB [] = ga at hp
    cases ga with
    | ok D =>
      have h0 := get0.symm.trans hga
      cases h0
    | large =>
      obtain ⟨hby, he⟩ := hp
      have he' : e = .returned (.tuple #[.agg #[.int .i64 0, .slice none 0 0, .slice none 0 0], .iface 42 (.int .i64 3)]) := he
      subst he'
      have HY := Lib.hid (HX.out.trans (hby.mono HX.out.size))
      have HYB := Lib.hid (HY.out.alloc HY.out.size (chBox 0 (.slice none 0 0) (.slice none 0 0)))
      have hc1 := conv_bytes ((HOW.out.below hby).below (below_box wy (chBox 0 (.slice none 0 0) (.slice none 0 0))))
      have hc2 := conv_bytes (HA.out.below (below_boxed HYB.out))
      clear hby he
      go_wp2_with fail
      go_ret
      exact ⟨rfl, below_boxed HYB.out⟩
    | spot k c =>
      obtain ⟨hby, q, he, _, _⟩ := hp
      have he' : e = .returned (.tuple #[.agg #[.int .i64 0, .slice none 0 0, .slice none 0 0], .iface 51 (.pointer (some ⟨q, 0, none⟩))]) := he
      subst he'
      have HY := Lib.hid (HX.out.trans (hby.mono HX.out.size))
      have HYB := Lib.hid (HY.out.alloc HY.out.size (chBox 0 (.slice none 0 0) (.slice none 0 0)))
      have hc1 := conv_bytes ((HOW.out.below hby).below (below_box wy (chBox 0 (.slice none 0 0) (.slice none 0 0))))
      have hc2 := conv_bytes (HA.out.below (below_boxed HYB.out))
      clear hby he
      go_wp2_with fail
      go_ret
      exact ⟨rfl, below_boxed HYB.out⟩
  · have hz := hz
    go_enter Tryz.func3, Tryz.ntmps3
    go_wp2_with fail
    refine (up_any _ HL0.out).mono ?_
    rintro e w1 ⟨rfl, hb1⟩
    obtain ⟨x0, x1, x2⟩ := box_later hb1
    have HB1 := Lib.hid hb1
    clear hb1
    go_wp2_with fail
    refine (HFW.out _ HB1.out).mono ?_
    rintro e w2 ⟨rfl, hb2⟩
    have HB2 := Lib.hid (HB1.out.trans (hb2.mono HB1.out.size))
    clear x0 x1 x2
    obtain ⟨x0, x1, x2⟩ := box_later HB2.out
    rw [HF.out]
    clear hb2
    go_wp2_with fail
    refine (put_any C _ _ w2 (HL.out.after (below_boxed HB2.out)) (HC.out.below (below_boxed HB2.out)) HF.out).mono ?_
    intro e w3 hp
    obtain ⟨hb3, ⟨_, pv, hpe, hpo⟩ | ⟨hk, _⟩⟩ := hp
    rotate_left
    · exact absurd HK.out hk
    obtain ⟨pA, pcap, hps⟩ := own_slice hpo
    subst hps
    subst hpe
    have HB3 := Lib.hid (HB2.out.trans (hb3.mono HB2.out.size))
    have HP := Lib.hid (BytesAt.of_own hpo)
    clear x0 x1 x2 hb3 hpo
    obtain ⟨x0, x1, x2⟩ := box_later HB3.out
    go_wp2_with fail
    refine (get_any _ (encCh C) w3 (HL.out.after (below_boxed HB3.out)) HP.out (encCh_len HOKC.out)).mono ?_
    intro e w4 hp
    rw [get_put HOKC.out HK.out] at hp
    obtain ⟨hb4, xs, xt, hxe, hxh⟩ := hp
    have hxe' : e = .returned (.tuple #[.agg #[.int .i64 C.vars, xs, xt], .nilIface]) := hxe
    subst hxe'
    obtain ⟨uA, ucap, hxs, _⟩ := RowsAt.slice hxh.1
    obtain ⟨rA, rcap, hxt, _⟩ := RowsAt.slice hxh.2
    subst hxs
    subst hxt
    have HB4 := Lib.hid (HB3.out.trans (hb4.mono HB3.out.size))
    have HB5 := Lib.hid (HB4.out.alloc HB4.out.size (chBox C.vars (.slice uA C.sts.length ucap) (.slice rA C.trs.length rcap)))
    have HXC := Lib.hid (Blk.new w4 25 #[.int .i64 C.vars, .slice uA C.sts.length ucap, .slice rA C.trs.length rcap])
    have HXH := Lib.hid (hxh.below (below_box w4 (chBox C.vars (.slice uA C.sts.length ucap) (.slice rA C.trs.length rcap))))
    clear x0 x1 x2 hb4 hxe hxh
    obtain ⟨x0, x1, x2⟩ := box_later HB5.out
    obtain ⟨⟨z0, z1, z2⟩, -⟩ := HXC.out.facts3
    go_wp2_with fail
    refine (same_any _ _ _ _ _ _ _ _ C _ HXH.out (HC.out.below (below_boxed HB5.out)) HF.out).mono ?_
    rintro e w6 ⟨rfl, hb6⟩
    have HB6 := Lib.hid (HB5.out.trans (hb6.mono HB5.out.size))
    clear hb6 x0 x1 x2 z0 z1 z2
    have ho0 : OwnsB w6.heap.size (w6.alloc (.cells #[] 5)) (.slice (some ⟨w6.heap.size, 0, none⟩) 0 0) [] := World.ownsRow_made w6 #[] 0 (Nat.le_refl _) (by unfold maxLen; omega) rfl
    have HO0 := Lib.hid ho0
    have HX0 := Lib.hid (HB6.out.alloc HB6.out.size (.cells #[] 5))
    clear ho0
    have HAA := Lib.hid (bytes_add (HA.out.below (below_boxed HX0.out)))
    go_wp2_with (at_builtin; refine wpList_append_own_at _ rfl _ _ 26 rfl w6.heap.size 5 i0 (.int .u8 0) 1 1 Tryz.underlying26 HI.out HZ0.out HZ1.out HZ2.out rfl (by decide) (.slice (some ⟨w6.heap.size, 0, none⟩) 0 0) 0 [] rfl HO0.out a l.length cap (Lib.byteCells l) rfl ?c0 ?c1 ?c2 ?c3 ?c4 ?c5 ?_)
    case c0 => rw [Lib.byteCells_length, Nat.mul_one]
    case c1 => exact HAA.out
    case c2 => exact Lib.byteCells_one l
    case c3 => unfold maxLen; omega
    case c4 => omega
    case c5 => (try simp)
    intro v' wx hown' hgrow _ _
    have ho : OwnsB w6.heap.size wx v' l := by
      unfold OwnsB
      simpa using hown'
    obtain ⟨vA, vcap, rfl⟩ := own_slice ho
    have HX := Lib.hid (Below.grown HX0.out hgrow HX0.out.size (fun g hg => by
      injection hg with hg
      have := HB6.out.size
      simp only at hg
      omega))
    have HOW := Lib.hid (BytesAt.of_own ho)
    clear ho hown' hgrow
    go_wp2_with fail
    refine (get_any _ l _ (HL.out.after (below_boxed HX.out)) HOW.out (by (try simp only [List.length_nil]); omega)).mono ?_
    intro e wy hp
    generalize hga : getA hasTB l = ga at hp
    cases ga with
    | ok D =>
      obtain ⟨hby, ys, yt, he, hch⟩ := hp
      have he' : e = .returned (.tuple #[.agg #[.int .i64 D.vars, ys, yt], .nilIface]) := he
      subst he'
      obtain ⟨henc, hokD, hckD⟩ := put_get hga
      have HDK := Lib.hid (And.intro hokD hckD)
      obtain ⟨yA, ycap, hys, _⟩ := RowsAt.slice hch.1
      obtain ⟨tA, tcap, hyt, _⟩ := RowsAt.slice hch.2
      subst hys
      subst hyt
      have HY := Lib.hid (HX.out.trans (hby.mono HX.out.size))
      have HYB := Lib.hid (HY.out.alloc HY.out.size (chBox D.vars (.slice yA D.sts.length ycap) (.slice tA D.trs.length tcap)))
      have HYC := Lib.hid (Blk.new wy 25 #[.int .i64 D.vars, .slice yA D.sts.length ycap, .slice tA D.trs.length tcap])
      have HDH := Lib.hid (hch.below (below_box wy (chBox D.vars (.slice yA D.sts.length ycap) (.slice tA D.trs.length tcap))))
      have hc1 := conv_bytes ((HOW.out.below hby).below (below_box wy (chBox D.vars (.slice yA D.sts.length ycap) (.slice tA D.trs.length tcap))))
      have hc2 := conv_bytes (HA.out.below (below_boxed HYB.out))
      obtain ⟨⟨y0, y1, y2⟩, -⟩ := HYC.out.facts3
      clear hby he hch hokD hckD
      go_wp2_with fail
      refine (put_any D _ _ _ (HL.out.after (below_boxed HYB.out)) HDH.out (few_of_ok HDK.out.1)).mono ?_
      intro e wz hq
      obtain ⟨hbz, ⟨_, qv, hqe, hown⟩ | ⟨hk, _⟩⟩ := hq
      · rw [henc] at hown
        obtain ⟨qA, qcap, hqs⟩ := own_slice hown
        subst hqs
        subst hqe
        have HZ := Lib.hid (HYB.out.trans (hbz.mono HYB.out.size))
        have hc3 := conv_bytes (BytesAt.of_own hown)
        have hc4 := conv_bytes (HA.out.below (below_boxed HZ.out))
        clear hbz hown hc1 hc2
        go_wp2_with fail
        go_ret
        exact ⟨rfl, below_boxed HZ.out⟩
      · exact absurd HDK.out.2 hk
    | large =>
      obtain ⟨hby, he⟩ := hp
      have he' : e = .returned (.tuple #[.agg #[.int .i64 0, .slice none 0 0, .slice none 0 0], .iface 42 (.int .i64 3)]) := he
      subst he'
      have HY := Lib.hid (HX.out.trans (hby.mono HX.out.size))
      have HYB := Lib.hid (HY.out.alloc HY.out.size (chBox 0 (.slice none 0 0) (.slice none 0 0)))
      have hc1 := conv_bytes ((HOW.out.below hby).below (below_box wy (chBox 0 (.slice none 0 0) (.slice none 0 0))))
      have hc2 := conv_bytes (HA.out.below (below_boxed HYB.out))
      clear hby he
      go_wp2_with fail
      go_ret
      exact ⟨rfl, below_boxed HYB.out⟩
    | spot k c =>
      obtain ⟨hby, q, he, _, _⟩ := hp
      have he' : e = .returned (.tuple #[.agg #[.int .i64 0, .slice none 0 0, .slice none 0 0], .iface 51 (.pointer (some ⟨q, 0, none⟩))]) := he
      subst he'
      have HY := Lib.hid (HX.out.trans (hby.mono HX.out.size))
      have HYB := Lib.hid (HY.out.alloc HY.out.size (chBox 0 (.slice none 0 0) (.slice none 0 0)))
      have hc1 := conv_bytes ((HOW.out.below hby).below (below_box wy (chBox 0 (.slice none 0 0) (.slice none 0 0))))
      have hc2 := conv_bytes (HA.out.below (below_boxed HYB.out))
      clear hby he
      go_wp2_with fail
      go_ret
      exact ⟨rfl, below_boxed HYB.out⟩
/-- CodecBack, for any chart and any bytes -/
theorem law_any (vs vt vin : Value) (C : Ch) (l : List UInt8) (w : World) (hL : Laid w) (hC : ChHas w vs vt C) (hS : ShortCh C) (hA : BytesAt w vin l) (hSl : Short l.length) (hN : vin = .slice none 0 0 ∨ ∃ a cap, vin = .slice (some a) l.length cap) :
    Calls Tryz.prog 3 #[.agg #[.int .i64 C.vars, vs, vt], vin] w fun e w' => e = .returned (.bool true) ∧ Below w.heap.size w w' := by
  cases hf : fewB C with
  | false => exact law_far vs vt vin C l w hL hC hS hA hSl (.inl hf) hN
  | true =>
    by_cases hl : l.length ≤ 20000
    · by_cases hok : chk hasTB C = .ok
      · exact law_good vs vt vin C l w hL hC hS hA hSl hf hok hl hN
      · exact law_bad vs vt vin C l w hL hC hS hA hSl hf hok hl hN
    · exact law_far vs vt vin C l w hL hC hS hA hSl (.inr (by omega)) hN
end Go.Proofs.YtkdgcdcakioajaaGreatDoor
