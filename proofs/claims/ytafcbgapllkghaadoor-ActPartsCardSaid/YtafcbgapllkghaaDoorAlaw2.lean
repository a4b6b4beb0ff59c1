/- The law ActParts returns true. -/
import Derived.Test.YtafcbgapllkghaaDoorAup
namespace Go.Proofs.YtafcbgapllkghaaDoor
open Go.ChangeShapes Go.WideShapes Go.ChangeAt Go.RowKit
set_option linter.unusedVariables false

/-- the actions behind the first k, as a part of the slice -/
theorem acts_drop {w : World} {A : Option Addr} {cap : Nat} {l : List Ac} (h : ActsAt w (.slice A l.length cap) l) (k : Nat) (hk : k ≤ l.length) (B : Option Addr) (hB : k < l.length → B = A.map (fun a => a.add (k * 4))) (c : Nat) (hc : l.length - k ≤ c) :
    ActsAt w (.slice B (l.length - k) c) (l.drop k) := by
  obtain ⟨A', cap', hv, hcap, hi⟩ := h
  injection hv with h1 h2 h3
  subst h1; subst h3
  refine ⟨B, c, by rw [List.length_drop], by rw [List.length_drop]; exact hc, fun i x hx => ?_⟩
  rw [List.getElem?_drop] at hx
  obtain ⟨b, o, hA, hb, hp⟩ := hi _ x hx
  have hlt := (List.getElem?_eq_some_iff.1 hx).1
  rw [hB (by omega), hA]
  refine ⟨b, o + k * 4, by simp [flat_add], hb, ?_⟩
  rw [Nat.add_mul] at hp
  rwa [Nat.add_assoc]
set_option maxHeartbeats 4000000 in
set_option maxRecDepth 100000 in
theorem law2_any (v ve : Value) (l : List Ac) (env : List Int) (n : Int) (w : World) (hL : Laid w) (hA : ActsAt w v l) (hsl : Short l.length) (hE : NumsAt w ve env) (hef : ∀ x ∈ env, F64 x) :
    Calls Tryd.prog 3 #[v, ve, .int .i64 n] w fun e w' => e = .returned (.bool true) ∧ Below w.heap.size w w' := by
  obtain ⟨i0, hi, hz0, hz1, hz2⟩ := info_parts Tryd.info3
  have HI := Lib.hid hi
  have HZ0 := Lib.hid hz0
  have HZ1 := Lib.hid hz1
  have HZ2 := Lib.hid hz2
  obtain ⟨i1, ji, jz0, jz1, jz2⟩ := info_parts Tryd.infoOut
  have JI := Lib.hid ji
  have JZ0 := Lib.hid jz0
  have JZ1 := Lib.hid jz1
  have JZ2 := Lib.hid jz2
  obtain ⟨i2, ki, kz0, kz1, kz2⟩ := info_parts Tryd.info2
  have KI := Lib.hid ki
  have KZ0 := Lib.hid kz0
  have KZ1 := Lib.hid kz1
  have KZ2 := Lib.hid kz2
  have HU := Lib.hid (upA_any w hL)
  have HF := Lib.hid (fun (W : World) (h : Below w.heap.size w W) => few_acts v l W (hA.below h) hsl)
  obtain ⟨eA, ecap, rfl, _, hel⟩ := id hE
  clear hel
  obtain ⟨A, cap, rfl, hcap, hel⟩ := id hA
  clear hel
  have HL := Lib.hid hL
  have HA := Lib.hid hA
  have HE := Lib.hid hE
  have HEF := Lib.hid hef
  clear hL hA hsl hE hef hi hz0 hz1 hz2 ji jz0 jz1 jz2 ki kz0 kz1 kz2
  go_enter Tryd.func3, Tryd.ntmps3
  go_wp2_with fail
  refine HU.out.mono ?_
  rintro e w1 ⟨rfl, hb1⟩
  have HB1 := Lib.hid hb1
  clear hb1
  go_wp2_with fail
  refine (HF.out w1 HB1.out).mono ?_
  rintro e w2 ⟨⟨b, rfl, hf⟩, rfl⟩
  have HFW := Lib.hid hf
  clear hf
  cases b with
  | false =>
    go_wp2_with fail
    go_ret
    exact ⟨rfl, HB1.out⟩
  | true =>
    by_cases h40 : 40 < env.length
    · have hz1 : decide ((40 : Int) < (env.length : Int)) = true := by simp; omega
      have hz2 : decide (40 < env.length) = true := by simpa using h40
      clear h40
      go_wp2_with fail
      go_ret
      exact ⟨rfl, HB1.out⟩
    · have hz1 : decide ((40 : Int) < (env.length : Int)) = false := by simp; omega
      have hz2 : decide (40 < env.length) = false := by simpa using h40
      by_cases hn0 : n < 0
      · go_wp2_with fail
        go_ret
        exact ⟨rfl, HB1.out⟩
      · by_cases hn1 : (l.length : Int) < n
        · go_wp2_with fail
          go_ret
          exact ⟨rfl, HB1.out⟩
        · obtain ⟨k, rfl⟩ : ∃ k : Nat, n = (k : Int) := ⟨n.toNat, by omega⟩
          have hk : k ≤ l.length := by omega
          have hk0 : (0 : Int) ≤ (k : Int) := Int.natCast_nonneg _
          have hkc : k ≤ cap := by omega
          have hl40 : l.length ≤ 40 := (HFW.out rfl).1
          have he40 : env.length ≤ 40 := by omega
          have HX500 := Lib.hid (fun a (ha : a ∈ l) => show a.expr.size ≤ 1000000 from Nat.le_trans ((HFW.out rfl).2 a ha) (by decide))
          have HR1 := Lib.hid (rowIs_ints (rows_of_nums (HE.out.below HB1.out)))
          have HBX := Lib.hid (below_box w1 (.cells #[] 2))
          clear hn0 hn1 h40 HU HF
          go_wp2_with (at_builtin; refine wpList_append_row rfl _ _ 23 rfl w1.heap.size 2 i2 (.int .i64 0) 1 8 Tryd.underlying23 KI.out KZ0.out KZ1.out KZ2.out rfl (by decide) _ 0 [] rfl (own_zero w1 2 1) _ env.length (intVals env) rfl HR1.out HBX.out ?c3 ?c4 ?c5 ?_)
          case c3 => unfold maxLen; omega
          case c4 => omega
          case c5 => simp
          intro v' w2 hown2 hgrow2
          have HB12 := Lib.hid (Below.grown HBX.out hgrow2 (by simp) (fun g hg => by
            have h : some w1.heap.size = some g := hg
            injection h with h
            omega))
          have HO2 : Hid (OwnEnv w1.heap.size w2 v' env) := Lib.hid (env_of_own (by simpa using hown2) rfl)
          have HB2 := Lib.hid (HB1.out.trans (HB12.out.mono HB1.out.size))
          obtain ⟨oA, ocap, rfl⟩ := HO2.out.slice
          clear hown2 hgrow2 HR1 HBX
          have HD3 := Lib.hid (do_all _ _ l env w2 (HL.out.after HB2.out) (HA.out.below HB2.out) hl40 HX500.out HO2.out.nums (by omega) HEF.out)
          obtain ⟨X, hX⟩ : ∃ X, X = doL l ⟨env, [], []⟩ := ⟨_, rfl⟩
          have hxe : X.env.length = env.length := by rw [hX, doL_env]
          have hsh := doL_short hl40 he40
          rw [← hX] at HD3 hsh
          obtain ⟨s1, s2, s3⟩ := hsh
          have HX := Lib.hid hX
          clear hX
          go_wp2_with fail
          refine HD3.out.mono ?_
          rintro e w3 ⟨hb3, vx, vo, vi, rfl, hx3, ho3, hi3⟩
          obtain ⟨xA, xcap, hvx⟩ := hx3.slice
          rw [hxe] at hvx
          subst hvx
          have HB3 := Lib.hid (HB2.out.trans (hb3.mono HB2.out.size))
          have HX3 := Lib.hid hx3.nums
          have HO3 := Lib.hid ho3.outs
          have HI3 := Lib.hid (list_of_own hi3)
          have HN3 := Lib.hid (nums_same _ _ env w3 (HO2.out.nums.below hb3) (HE.out.below HB3.out) (by omega))
          clear hb3 hx3 ho3 hi3 HD3
          go_wp2_with fail
          refine HN3.out.mono ?_
          rintro e w4 ⟨rfl, hb4⟩
          have HB4 := Lib.hid (HB3.out.trans (hb4.mono HB3.out.size))
          have HB34 := Lib.hid hb4
          have hxx : ((env.length : Int) != (env.length : Int)) = false := by simp
          have HD5 := Lib.hid (do_all (.slice A k cap) (.slice eA env.length ecap) (l.take k) env w4 (HL.out.after HB4.out) ((RowsAt.take HA.out k hk).below AcAt.keeps HB4.out) (by rw [List.length_take]; omega) (fun a ha => HX500.out a (List.mem_of_mem_take ha)) (HE.out.below HB4.out) (by omega) HEF.out)
          obtain ⟨X1, hX1⟩ : ∃ X, X = doL (l.take k) ⟨env, [], []⟩ := ⟨_, rfl⟩
          have hx1e : X1.env.length = env.length := by rw [hX1, doL_env]
          have hsh := doL_short (l := l.take k) (by rw [List.length_take]; omega) he40
          have hfit : X1.Fit := by rw [hX1]; exact doL_fit _ _ HEF.out
          rw [← hX1] at HD5 hsh
          obtain ⟨r1, r2, r3⟩ := hsh
          have HX1 := Lib.hid hX1
          have HFT := Lib.hid hfit
          clear hX1 hb4 hfit HN3
          go_wp2_with fail
          refine HD5.out.mono ?_
          rintro e w5 ⟨hb5, va, vb, vc, rfl, ha5, hb5', hc5⟩
          obtain ⟨cA, ccap, rfl⟩ := own_slice hc5
          have HB5 := Lib.hid (HB4.out.trans (hb5.mono HB4.out.size))
          have HB35 := Lib.hid (HB34.out.trans (hb5.mono HB34.out.size))
          have HA5 := Lib.hid ha5.nums
          have HO5 := Lib.hid hb5'.outs
          have HI5 := Lib.hid (list_of_own hc5)
          clear hb5 ha5 hb5' hc5 HD5
          go_wp2_with fail
          go_loop [16] (fun i => ∃ j : Nat, j ≤ X1.ins.length ∧ i = .int .i64 (j : Int) ∧ Hid (∀ m, m < j → ¬ X1.ins[m]? = some 1001)) (fun i => X1.ins.length - (intOf i).toNat)
          case atStart => exact ⟨0, Nat.zero_le _, rfl, Lib.hid (fun m hm => by omega)⟩
          case round =>
            obtain ⟨j, hj, rfl, HJ⟩ := hrel
            by_cases hlt : j < X1.ins.length
            · obtain ⟨A', cap', hv', _, hi'⟩ := HI5.out
              obtain ⟨b, o, hA', _, hc⟩ := hi' j _ (List.getElem?_eq_getElem hlt)
              injection hv' with e1 e2 e3
              subst e1
              subst hA'
              have c0 : w5.cell? ⟨b, o + j, none⟩ = some (.int .i64 X1.ins[j]) := by unfold IntAt at hc; rwa [Nat.mul_one] at hc
              have HJ2 : Hid (¬ X1.ins[j] = 1001 → ∀ m, m < j + 1 → ¬ X1.ins[m]? = some 1001) := Lib.hid (fun h m hm => by
                by_cases he : m = j
                · subst he
                  rw [List.getElem?_eq_getElem hlt]
                  exact fun hc => h (Option.some.inj hc)
                · exact HJ.out m (by omega))
              generalize X1.ins[j] = x at *
              clear hi' hc e2 e3
              by_cases hx : x = 1001
              · subst hx
                go_wp2_with fail
                go_ret
                exact ⟨rfl, HB5.out⟩
              · have hxn : (x == 1001) = false := by simpa using hx
                have HJ3 := Lib.hid (HJ2.out hx)
                clear hx HJ2
                go_wp2_with fail
                go_round
                case rel => exact ⟨j + 1, by omega, by go_num, HJ3⟩
                case measure => simp [intOf]; omega
            · obtain rfl : j = X1.ins.length := by omega
              have hno : 1001 ∉ X1.ins := fun hm => by
                obtain ⟨m, hm'⟩ := List.getElem?_of_mem hm
                exact HJ.out m (List.getElem?_eq_some_iff.1 hm').1 hm'
              have HPT : Hid (X = (doL (l.drop k) ⟨X1.env, [], []⟩).ahead X1.out X1.ins) := Lib.hid (by
                rw [HX.out, HX1.out]
                refine doL_parts l k env ?_
                rw [← HX1.out]
                exact hno)
              clear HJ hno
              have HPX : Hid (X.env = (doL (l.drop k) ⟨X1.env, [], []⟩).env) := Lib.hid (by rw [HPT.out]; rfl)
              have HPO : Hid (X.out = X1.out ++ (doL (l.drop k) ⟨X1.env, [], []⟩).out) := Lib.hid (by rw [HPT.out]; rfl)
              have HPI : Hid (X.ins = X1.ins ++ (doL (l.drop k) ⟨X1.env, [], []⟩).ins) := Lib.hid (by rw [HPT.out]; rfl)
              obtain ⟨t1, t2, t3⟩ := doL_short (l := l.drop k) (env := X1.env) (by rw [List.length_drop]; omega) (by omega)
              have HD6 := Lib.hid (fun (B : Option Addr) (c : Nat) (hB : k < l.length → B = A.map (fun a => a.add (k * 4))) (hc : l.length - k ≤ c) => do_all (.slice B (l.length - k) c) va (l.drop k) X1.env w5 (HL.out.after HB5.out) ((acts_drop HA.out k hk B hB c hc).below HB5.out) (by rw [List.length_drop]; omega) (fun a ha => HX500.out a (List.mem_of_mem_drop ha)) HA5.out r1 HFT.out)
              clear HX HX1 HPT
              go_wp2_with fail
              case' inl => refine (HD6.out A 0 (fun h => absurd h (by omega)) (by omega)).mono ?_
              case' inr => refine (HD6.out (A.map fun a => a.add (k * 4)) (cap - k) (fun _ => rfl) (by omega)).mono ?_
              all_goals
                rintro e w6 ⟨hb6, vd, ve6, vf, rfl, hd6, he6, hf6⟩
                have HB6 := Lib.hid (HB5.out.trans (hb6.mono HB5.out.size))
                have HB36 := Lib.hid (HB35.out.trans (hb6.mono HB35.out.size))
                have HB56 := Lib.hid hb6
                have HO6 := Lib.hid he6.outs
                have HI6 := Lib.hid (list_of_own hf6)
                have HNX := Lib.hid (nums_same _ vd X.env w6 (HX3.out.below HB36.out) (by rw [HPX.out]; exact hd6.nums) s1)
                clear hb6 hd6 he6 hf6
                go_wp2_with fail
                refine HNX.out.mono ?_
                rintro e w7 ⟨rfl, hb7⟩
                have HB37 := Lib.hid (HB36.out.trans (hb7.mono HB36.out.size))
                have HB57 := Lib.hid (HB56.out.trans (hb7.mono HB56.out.size))
                have HB67 := Lib.hid hb7
                have HB7 := Lib.hid (HB6.out.trans (hb7.mono HB6.out.size))
                have HBA7 := Lib.hid (below_box w7 (.cells #[] 41))
                clear hb7 HNX
                go_wp2_with (at_builtin; refine wpList_append_row rfl _ _ 26 rfl w7.heap.size 41 i1 (.agg #[.int .i64 0, .int .i64 0, .int .i64 0, .int .i64 0]) 4 32 Tryd.underlying26 JI.out JZ0.out JZ1.out JZ2.out rfl (by decide) _ 0 [] rfl (own_zero w7 41 4) _ X1.out.length (X1.out.flatMap ouCells) rfl (rowIs_outs (HO5.out.below HB57.out)) HBA7.out ?c3 ?c4 ?c5 ?_)
                case c3 => unfold maxLen; omega
                case c4 => omega
                case c5 => simp
                intro v8 w8 hown8 hgrow8
                have hown8 := hown8
                have HOW8 := Lib.hid hown8
                have HB78 := Lib.hid (Below.grown HBA7.out hgrow8 (by simp) (fun g hg => by
                  have h : some w7.heap.size = some g := hg
                  injection h with h
                  omega))
                clear hown8 hgrow8 HBA7
                go_wp2_with (at_builtin; refine wpList_append_row rfl _ _ 26 rfl w7.heap.size 41 i1 (.agg #[.int .i64 0, .int .i64 0, .int .i64 0, .int .i64 0]) 4 32 Tryd.underlying26 JI.out JZ0.out JZ1.out JZ2.out rfl (by decide) _ X1.out.length (X1.out.flatMap ouCells) rfl HOW8.out _ (doL (l.drop k) ⟨X1.env, [], []⟩).out.length ((doL (l.drop k) ⟨X1.env, [], []⟩).out.flatMap ouCells) rfl (rowIs_outs (HO6.out.below HB67.out)) HB78.out ?c3 ?c4 ?c5 ?_)
                case c3 => unfold maxLen; omega
                case c4 => omega
                case c5 => exact HB78.out.size
                intro v9 w9 hown9 hgrow9
                have HB79 := Lib.hid (Below.grown HB78.out hgrow9 HB78.out.size (fun g hg => (HOW8.out.lt g hg).1))
                have HO9 : Hid (OutsAt w9 v9 X.out) := Lib.hid (OwnOuts.outs (B := w7.heap.size) (by
                  rw [HPO.out]
                  unfold OwnOuts
                  rw [List.length_append, List.flatMap_append]
                  exact hown9))
                have HB9 := Lib.hid (HB7.out.trans (HB79.out.mono HB7.out.size))
                have HB39 := Lib.hid (HB37.out.trans (HB79.out.mono HB37.out.size))
                have HB59 := Lib.hid (HB57.out.trans (HB79.out.mono HB57.out.size))
                have HB69 := Lib.hid (HB67.out.trans (HB79.out.mono HB67.out.size))
                clear hown9 hgrow9 HOW8 HB78
                go_wp2_with fail
                refine (outs_same vo v9 X.out w9 (HO3.out.below HB39.out) HO9.out (by omega)).mono ?_
                rintro e w10 ⟨rfl, hb10⟩
                have HB10 := Lib.hid (HB9.out.trans (hb10.mono HB9.out.size))
                have HB310 := Lib.hid (HB39.out.trans (hb10.mono HB39.out.size))
                have HB510 := Lib.hid (HB59.out.trans (hb10.mono HB59.out.size))
                have HB610 := Lib.hid (HB69.out.trans (hb10.mono HB69.out.size))
                have HBA10 := Lib.hid (below_box w10 (.cells #[] 3))
                clear hb10 HO9
                go_wp2_with (at_builtin; refine wpList_append_row rfl _ _ 27 rfl w10.heap.size 3 i0 (.int .i64 0) 1 8 Tryd.underlying27 HI.out HZ0.out HZ1.out HZ2.out rfl (by decide) _ 0 [] rfl (own_zero w10 3 1) _ X1.ins.length (intVals X1.ins) rfl (rowIs_ints (HI5.out.below HB510.out)) HBA10.out ?c3 ?c4 ?c5 ?_)
                case c3 => unfold maxLen; omega
                case c4 => omega
                case c5 => simp
                intro v11 w11 hown11 hgrow11
                have hown11 := hown11
                have HOW11 := Lib.hid hown11
                have HB1011 := Lib.hid (Below.grown HBA10.out hgrow11 (by simp) (fun g hg => by
                  have h : some w10.heap.size = some g := hg
                  injection h with h
                  omega))
                clear hown11 hgrow11 HBA10
                go_wp2_with (at_builtin; refine wpList_append_row rfl _ _ 27 rfl w10.heap.size 3 i0 (.int .i64 0) 1 8 Tryd.underlying27 HI.out HZ0.out HZ1.out HZ2.out rfl (by decide) _ X1.ins.length (intVals X1.ins) rfl HOW11.out _ (doL (l.drop k) ⟨X1.env, [], []⟩).ins.length (intVals (doL (l.drop k) ⟨X1.env, [], []⟩).ins) rfl (rowIs_ints (HI6.out.below HB610.out)) HB1011.out ?c3 ?c4 ?c5 ?_)
                case c3 => unfold maxLen; omega
                case c4 => omega
                case c5 => exact HB1011.out.size
                intro v12 w12 hown12 hgrow12
                have HB1012 := Lib.hid (Below.grown HB1011.out hgrow12 HB1011.out.size (fun g hg => (HOW11.out.lt g hg).1))
                have HI12 : Hid (ListAt w12 v12 X.ins) := Lib.hid (list_of_own (B := w10.heap.size) (by
                  rw [HPI.out]
                  unfold intVals
                  rw [List.length_append, List.map_append]
                  exact hown12))
                have HB12' := Lib.hid (HB10.out.trans (HB1012.out.mono HB10.out.size))
                have HB312 := Lib.hid (HB310.out.trans (HB1012.out.mono HB310.out.size))
                clear hown12 hgrow12 HOW11 HB1011
                go_wp2_with fail
                refine (ints_same vi v12 X.ins w12 (HI3.out.below HB312.out) HI12.out (by omega)).mono ?_
                rintro e w13 ⟨rfl, hb13⟩
                have HB13 := Lib.hid (HB12'.out.trans (hb13.mono HB12'.out.size))
                clear hb13
                go_wp2_with fail
                go_ret
                exact ⟨rfl, HB13.out⟩
end Go.Proofs.YtafcbgapllkghaaDoor
