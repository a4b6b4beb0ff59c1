/- The contract of parse.Text: the text of a postfix, or that it is none, or too large. -/
import Derived.Test.YtdeopkjpglkdhaaGreatDoorTjoin
namespace Go.Proofs.YtdeopkjpglkdhaaGreatDoor
open Go.ChangeShapes Go.WideShapes Go.ChangeAt Go.RowKit
set_option linter.unusedVariables false

def elVals (S : List El) : List Value := S.reverse.map fun x => .string (bytes x.s)
theorem elVals_cons (x : El) (S : List El) : elVals (x :: S) = elVals S ++ [.string (bytes x.s)] := by simp [elVals]
theorem elVals_len (S : List El) : (elVals S).length = S.length := by simp [elVals]
theorem own_take {w : World} {B : Nat} {e : TypeId} {g n k cap : Nat} {xs ys : List Value} (h : w.ownsRow B e 1 (.slice (some ⟨g, 0, none⟩) n cap) n xs) (hk : ys.length = k) (hx : ∃ zs, xs = ys ++ zs) : w.ownsRow B e 1 (.slice (some ⟨g, 0, none⟩) k cap) k ys := by
  obtain ⟨zs, rfl⟩ := hx
  refine ⟨by omega, ?_⟩
  rcases h.2 with ⟨h0, _⟩ | ⟨g', cap', cur, h1, h2, h3, h4, h5, h6, h7⟩
  · cases h0
  · injection h1 with h1 h8 h9
    subst h9
    have hl := h.1
    rw [List.length_append] at hl
    refine .inr ⟨g', cap, cur, by rw [← hk] at *; injection h1 with h1; rw [h1], h2, h3, by omega, h5, h6, ?_⟩
    have := congrArg (List.take k) h7
    rw [List.take_take, show min k (n * 1) = k * 1 by omega] at this
    rw [this, ← hk, List.take_left]
theorem own_cell {w : World} {B : Nat} {e : TypeId} {g n cap : Nat} {xs : List Value} (h : w.ownsRow B e 1 (.slice (some ⟨g, 0, none⟩) n cap) n xs) (j : Nat) (x : Value) (hx : xs[j]? = some x) : w.cell? ⟨g, j, none⟩ = some x := by
  have hj : j < n := by have := (List.getElem?_eq_some_iff.1 hx).1; rw [h.1] at this; omega
  rw [h.cellAt j (by omega), hx]
theorem JPost.ok {L : List UInt8} {w w' : World} {e : Ending} (hl : L.length ≤ 200) (h : JPost L w e w') : e = .returned (.tuple #[.string (bytes L), .nilIface]) ∧ Below w.heap.size w w' := by
  obtain ⟨hb, ⟨_, h⟩ | ⟨h, _⟩⟩ := h
  · exact ⟨h, hb⟩
  · omega
theorem JPost.large {L : List UInt8} {w w' : World} {e : Ending} (hl : 200 < L.length) (h : JPost L w e w') : e = .returned (.tuple #[.string ⟨#[]⟩, .iface 36 (.int .i64 3)]) ∧ Below w.heap.size w w' := by
  obtain ⟨hb, ⟨h, _⟩ | ⟨_, h⟩⟩ := h
  · omega
  · exact ⟨h, hb⟩
theorem data_bytes (l : List UInt8) : (bytes l).data.toList = l := rfl
/-- what Text tells -/
def TxPost (ts : List Tk) (w : World) (e : Ending) (w' : World) : Prop :=
  Below w.heap.size w w' ∧ ((mayP ts = false ∧ e = .returned (.tuple #[.string ⟨#[]⟩, .iface 36 (.int .i64 1)])) ∨
    (mayP ts = true ∧ ∃ x, stk ts ts.length = [x] ∧ ((x.ok = true ∧ e = .returned (.tuple #[.string (bytes x.s), .nilIface])) ∨ (x.ok = false ∧ e = .returned (.tuple #[.string ⟨#[]⟩, .iface 36 (.int .i64 3)])))))
/-- what holds at the head of the loop -/
def TRel (ts : List Tk) (w : World) (k : Nat) (v : Value) (wr : World) : Prop :=
  allOk (stk ts k) = true ∧ (∀ x ∈ stk ts k, x.s.length ≤ 200) ∧ Below w.heap.size w wr ∧ wr.ownsRow w.heap.size 9 1 v (stk ts k).length (elVals (stk ts k))
theorem neq_code_large (w : World) : (binOp .neq 25 (.iface 36 (.int .i64 3)) .nilIface).run Tryz.prog w = .ok (.bool true) w := by kernel_rfl
theorem slice_of_own2 {w : World} {B : Nat} {e : TypeId} {s n : Nat} {v : Value} {xs : List Value} (h : w.ownsRow B e s v n xs) (hn : n ≠ 0) : ∃ g cap, v = .slice (some ⟨g, 0, none⟩) n cap := by
  rcases h.2 with ⟨_, h⟩ | ⟨a, b, _, h, _⟩
  · omega
  · exact ⟨a, b, h⟩
theorem stk_le (ts : List Tk) : ∀ k, Valid ts k → (stk ts k).length ≤ k
  | 0, _ => Nat.le_refl _
  | k + 1, h => by
    have h1 := valid_len h
    have h2 := stk_le ts k (h.mono (by omega))
    have h3 := (h k (by omega)).1
    omega
theorem trel_push {ts : List Tk} {w w3 : World} {k q : Nat} {v' : Value} {n : El} {S : List El} (hst : stk ts (k + 1) = n :: S) (hok : n.ok = true) (hS : allOk S = true) (hl : n.s.length ≤ 200) (hle : ∀ x ∈ S, x.s.length ≤ 200)
    (hb : Below w.heap.size w w3) (hown : w3.ownsRow w.heap.size 9 1 v' (q + 1) (elVals S ++ [.string (bytes n.s)])) (hq : S.length = q) : TRel ts w (k + 1) v' w3 := by
  unfold TRel
  rw [hst]
  refine ⟨by unfold allOk at *; simp [hok, hS], fun x hx => ?_, hb, ?_⟩
  · rcases List.mem_cons.1 hx with rfl | h
    · exact hl
    · exact hle x h
  · rw [elVals_cons, List.length_cons, hq]; exact hown
theorem bad_top {ts : List Tk} {k : Nat} {top n : El} {S : List El} (hV : Valid ts ts.length) (hk : k < ts.length) (htop : stk ts ts.length = [top]) (hst : stk ts (k + 1) = n :: S) (hn : n.ok = false) : top.ok = false := by
  have h := stk_bad ts (k + 1) (by rw [hst]; unfold allOk; simp [hn]) (ts.length - (k + 1)) (by rw [show k + 1 + (ts.length - (k + 1)) = ts.length by omega]; exact hV)
  rw [show k + 1 + (ts.length - (k + 1)) = ts.length by omega, htop] at h
  unfold allOk at h
  simpa using h
theorem sgn_leaf {t : Tk} (h : tak t = 0) : sgn t = textB t := by
  obtain ⟨k, n, a⟩ := t
  by_cases h1 : k = 1
  · subst h1; exact sgn_else 1 n a (by decide) (by decide) (by decide) (by decide)
  · by_cases h2 : k = 2
    · subst h2; exact sgn_else 2 n a (by decide) (by decide) (by decide) (by decide)
    · have ha := (tak_may (t := (k, n, a)) (by omega)).1
      simp only at ha
      subst ha
      rw [tak_fix k n h1 h2] at h
      have hf : fixTak k = 0 := by
        by_cases hn : n = 0
        · rw [if_pos hn] at h; exact h
        · rw [if_neg hn] at h; omega
      have hk : k = 15 ∨ k = 16 := by
        unfold fixTak at hf
        by_cases c : k = 15 ∨ k = 16
        · exact c
        · rw [if_neg c] at hf
          split at hf
          · omega
          · split at hf <;> omega
      exact sgn_else k n 0 (by omega) (by omega) (by omega) (by omega)
theorem own_cap {w : World} {B : Nat} {e : TypeId} {g n cap : Nat} {xs : List Value} (h : w.ownsRow B e 1 (.slice (some ⟨g, 0, none⟩) n cap) n xs) : n ≤ cap := by
  rcases h.2 with ⟨h0, _⟩ | ⟨g', cap', cur, h1, h2, h3, h4, h5, h6, h7⟩
  · cases h0
  · injection h1 with h1 h8 h9
    omega
theorem all_cons {x : El} {S : List El} (h : allOk (x :: S) = true) : x.ok = true ∧ allOk S = true := by unfold allOk at *; simpa using h
theorem un_ok {t : Tk} {x : El} {S : List El} {k : Nat} (hc : tak t = 1) (hx : x.ok = true) (hl : (unS t x.s).length ≤ 200) : step k t (x :: S) = ⟨unS t x.s, x.f, true⟩ :: S := by rw [step1 _ _ hc, hx]; simp [hl]
theorem un_large {t : Tk} {x : El} {S : List El} {k : Nat} (hc : tak t = 1) (hl : ¬ (unS t x.s).length ≤ 200) : step k t (x :: S) = ⟨unS t x.s, x.f, false⟩ :: S := by rw [step1 _ _ hc]; simp; omega
theorem bin_ok {t : Tk} {a b : El} {S : List El} {k : Nat} (hc : tak t = 2) (ha : a.ok = true) (hb : b.ok = true) (hl : (binS t a.s b.s).length ≤ 200) : step k t (b :: a :: S) = ⟨binS t a.s b.s, a.f, true⟩ :: S := by rw [step2 _ _ _ hc, ha, hb]; simp [hl]
theorem bin_large {t : Tk} {a b : El} {S : List El} {k : Nat} (hc : tak t = 2) (hl : ¬ (binS t a.s b.s).length ≤ 200) : step k t (b :: a :: S) = ⟨binS t a.s b.s, a.f, false⟩ :: S := by rw [step2 _ _ _ hc]; simp; omega
set_option maxHeartbeats 8000000 in
set_option maxRecDepth 100000 in
theorem text_may (v : Value) (ts : List Tk) (w : World) (hL : Laid w) (hv : ToksAt w v ts) (hn : ∀ t ∈ ts, t.2.1 ≤ 9223372036854775807) (hm : mayP ts = true) : Calls Tryz.prog 11 #[v] w (TxPost ts w) := by
  obtain ⟨i0, hi, hz0, hz1, hz2⟩ := info_parts Tryz.info9
  have HI := Lib.hid hi
  have HZ0 := Lib.hid hz0
  have HZ1 := Lib.hid hz1
  have HZ2 := Lib.hid hz2
  clear hi hz0 hz1 hz2
  have HM := Lib.hid (may_any v ts w hv (by have := (mayP_valid hm).1; omega))
  obtain ⟨hl, hV, top, htop⟩ := mayP_valid hm
  have HMP := Lib.hid hm
  have HV := Lib.hid hV
  have HTOP := Lib.hid htop
  have HN := Lib.hid hn
  have hnn := neq_nil_nil
  have hnc := fun W => neq_code_large W
  obtain ⟨A, cap, rfl, hc, hel⟩ := hv
  have HE := Lib.hid hel
  clear hel hm hn hV htop
  go_enter Tryz.func11, Tryz.ntmps11
  go_wp2_with fail
  refine HM.out.mono ?_
  rintro e w0 ⟨rfl, hb0⟩
  rw [HMP.out]
  have HB0 := Lib.hid hb0
  clear hb0
  go_wp2_with fail
  go_loopw [4, 18] (fun v i wr => ∃ k : Nat, k ≤ ts.length ∧ i = .int .i64 (k : Int) ∧ TRel ts w k v wr) (fun _ i _ => ts.length - (intOf i).toNat)
  case atStart => exact ⟨0, Nat.zero_le _, rfl, rfl, (fun x hx => by cases hx), HB0.out, World.ownsRow_nil _ _ _ _⟩
  case round =>
    obtain ⟨k, hk, rfl, hok, hle, hb, hown⟩ := hrel
    obtain ⟨wo, rfl⟩ : ∃ wo : World, wo = wr := ⟨_, rfl⟩
    by_cases hlt : k < ts.length
    · obtain ⟨b, o, rfl, hbw, c0, c1, c2⟩ := HE.out k ts[k] (List.getElem?_eq_getElem hlt)
      have c0 : wo.cell? ⟨b, o + k * 3, none⟩ = _ := (hb.cell (p := ⟨b, _, none⟩) hbw).trans c0
      have c1 : wo.cell? ⟨b, o + k * 3 + 1, none⟩ = _ := (hb.cell (p := ⟨b, _, none⟩) hbw).trans c1
      have c2 : wo.cell? ⟨b, o + k * 3 + 2, none⟩ = _ := (hb.cell (p := ⟨b, _, none⟩) hbw).trans c2
      have hg : ts.getD k (0, 0, 0) = ts[k] := by simp [List.getD, List.getElem?_eq_getElem hlt]
      obtain ⟨ht0, htn⟩ := HV.out k hlt
      have hst := stk_succ ts k
      have hsl := stk_le ts k (HV.out.mono hk)
      rw [hg] at ht0 htn hst
      have HB := Lib.hid (HN.out ts[k] (List.getElem_mem hlt))
      generalize ts[k] = t at *
      have HST := Lib.hid hst
      clear hg hst
      have hd : decide (0 ≤ tak t) = true := by simpa using ht0
      have HB1 := Lib.hid ((Below.refl wo.heap.size wo).alloc (Nat.le_refl _) (.cells #[.int .i64 t.1, .int .i64 t.2.1, .int .i64 t.2.2] 40))
      rcases tak_cases t with c | c | c | c
      · omega
      · have HC := Lib.hid c
        have HLF := Lib.hid (sgn_leaf c)
        have HS0 := Lib.hid (show stk ts (k + 1) = ⟨textB t, k, true⟩ :: stk ts k by rw [HST.out, step0 _ c])
        have HLL := Lib.hid (show (textB t).length ≤ 200 by rw [← sgn_leaf c]; have := sgn_len ht0 HB.out; omega)
        have HOK := Lib.hid hok
        have HLE := Lib.hid hle
        have HJ := Lib.hid (fun (A : Option Addr) (cap : Nat) W (hW : Laid W) => (join0 t A cap W hW ht0 HB.out).mono fun e w' h => h.ok (by have := sgn_len ht0 HB.out; omega))
        rw [HLF.out] at HJ
        generalize stk ts k = S at *
        generalize hSl : S.length = q at hown hsl
        have HSL := Lib.hid hSl
        have HOWN := Lib.hid hown
        have hcs := hown.2
        clear hok hle HST htn c hSl hown
        rcases hcs with ⟨rfl, h0⟩ | ⟨g, gcap, cur, rfl, _, _, hcap, _⟩
        · clear h0
          go_wp2_with fail
          refine (takes_any t _).mono ?_
          rintro e w1 ⟨hb1, m, rfl, hm, hm0, hm2⟩
          obtain rfl : m = 0 := by rw [hm ht0, HC.out]
          rw [hd]
          clear hm hm0 hm2
          have HX1 := Lib.hid ((hb.trans (HB1.out.mono hb.size)).trans (hb1.mono (by simp; have := hb.size; omega)))
          have HOW1 := Lib.hid (own_below (own_below HOWN.out HB1.out) hb1)
          obtain ⟨⟨a0, a1, a2⟩, _⟩ := ((Blk.new wo 40 #[.int .i64 t.1, .int .i64 t.2.1, .int .i64 t.2.2]).below hb1 (by simp)).facts3
          have hbz : wo.heap.size + 1 ≤ w1.heap.size := by have := hb1.size; simpa using this
          have HLD := Lib.hid (hL.after HX1.out.drew)
          clear hb1
          go_wp2_with fail
          first
            | (go_region_with (go_at_call 23; refine (HJ.out _ _ w1.drew HLD.out).mono ?_; rintro e w2 ⟨rfl, hb2⟩; have HB2 := Lib.hid hb2; clear hb2))
            | fail
          have HX2 := Lib.hid (HX1.out.drew.trans (HB2.out.mono (Nat.le_trans HX1.out.size (Nat.le_refl _))))
          have HOW2 := Lib.hid (own_below HOW1.out.drew HB2.out)
          have HQ3 := Lib.hid (show q + 1 ≤ maxLen by unfold maxLen; omega)
          have HQ4 := Lib.hid (show (q + 1) * 16 ≤ 140737488355328 by omega)
          have HQ5 := Lib.hid (show ∀ o : Obj, w.heap.size ≤ (w2.alloc o).heap.size from fun o => by simp; have := HX2.out.size; omega)
          go_wp2_with (at_builtin; refine wpList_append_own_at _ rfl _ _ 56 rfl w.heap.size 9 i0 (.string ⟨#[]⟩) 1 16 Tryz.underlying56 HI.out HZ0.out HZ1.out HZ2.out rfl (by decide) _ _ _ rfl (HOW2.out.alloc _) ⟨w2.heap.size, 0, none⟩ 1 1 [.string (bytes (textB t))] rfl rfl (new_str w2 _) (str_one _) HQ3.out HQ4.out (HQ5.out _) ?_; intro v' w3 hown' hgrow _ _)
          have HG := Lib.hid ((HX2.out.alloc HX2.out.size _).grown hgrow (by simp; have := HX2.out.size; omega) (fun g hg => (HOW2.out.lt g hg).1))
          have HO' := Lib.hid hown'
          clear hown' hgrow
          go_wp2
          go_roundw
          case rel => exact ⟨k + 1, by omega, by go_num, trel_push HS0.out rfl HOK.out HLL.out HLE.out HG.out HO'.out HSL.out⟩
          case measure => simp [intOf]; omega
        · by_cases hcq : gcap = q
          · subst hcq
            go_wp2_with fail
            refine (takes_any t _).mono ?_
            rintro e w1 ⟨hb1, m, rfl, hm, hm0, hm2⟩
            obtain rfl : m = 0 := by rw [hm ht0, HC.out]
            rw [hd]
            clear hm hm0 hm2
            have HX1 := Lib.hid ((hb.trans (HB1.out.mono hb.size)).trans (hb1.mono (by simp; have := hb.size; omega)))
            have HOW1 := Lib.hid (own_below (own_below HOWN.out HB1.out) hb1)
            obtain ⟨⟨a0, a1, a2⟩, _⟩ := ((Blk.new wo 40 #[.int .i64 t.1, .int .i64 t.2.1, .int .i64 t.2.2]).below hb1 (by simp)).facts3
            have hbz : wo.heap.size + 1 ≤ w1.heap.size := by have := hb1.size; simpa using this
            have HLD := Lib.hid (hL.after HX1.out.drew)
            clear hb1
            go_wp2_with fail
            first
              | (go_region_with (go_at_call 23; refine (HJ.out _ _ w1.drew HLD.out).mono ?_; rintro e w2 ⟨rfl, hb2⟩; have HB2 := Lib.hid hb2; clear hb2))
              | fail
            have HX2 := Lib.hid (HX1.out.drew.trans (HB2.out.mono (Nat.le_trans HX1.out.size (Nat.le_refl _))))
            have HOW2 := Lib.hid (own_below HOW1.out.drew HB2.out)
            have HQ3 := Lib.hid (show gcap + 1 ≤ maxLen by unfold maxLen; omega)
            have HQ4 := Lib.hid (show (gcap + 1) * 16 ≤ 140737488355328 by omega)
            have HQ5 := Lib.hid (show ∀ o : Obj, w.heap.size ≤ (w2.alloc o).heap.size from fun o => by simp; have := HX2.out.size; omega)
            go_wp2_with (at_builtin; refine wpList_append_own_at _ rfl _ _ 56 rfl w.heap.size 9 i0 (.string ⟨#[]⟩) 1 16 Tryz.underlying56 HI.out HZ0.out HZ1.out HZ2.out rfl (by decide) _ _ _ rfl (HOW2.out.alloc _) ⟨w2.heap.size, 0, none⟩ 1 1 [.string (bytes (textB t))] rfl rfl (new_str w2 _) (str_one _) HQ3.out HQ4.out (HQ5.out _) ?_; intro v' w3 hown' hgrow _ _)
            have HG := Lib.hid ((HX2.out.alloc HX2.out.size _).grown hgrow (by simp; have := HX2.out.size; omega) (fun g hg => (HOW2.out.lt g hg).1))
            have HO' := Lib.hid hown'
            clear hown' hgrow
            go_wp2
            go_roundw
            case rel => exact ⟨k + 1, by omega, by go_num, trel_push HS0.out rfl HOK.out HLL.out HLE.out HG.out HO'.out HSL.out⟩
            case measure => simp [intOf]; omega
          · have hcq2 : q < gcap := by omega
            have e1 : ¬ gcap = q := by omega
            have e2 : (gcap == q) = false := by simp; omega
            have e3 : ¬ (gcap : Int) = (q : Int) := by omega
            have e4 : ((gcap : Int) == (q : Int)) = false := by simp; omega
            have e6 : (q : Int) < (gcap : Int) := by omega
            have e7 : q < gcap := by omega
            have e8 : ¬ gcap ≤ q := by omega
            have e9 : ¬ q = gcap := by omega
            go_wp2_with fail
            refine (takes_any t _).mono ?_
            rintro e w1 ⟨hb1, m, rfl, hm, hm0, hm2⟩
            obtain rfl : m = 0 := by rw [hm ht0, HC.out]
            rw [hd]
            clear hm hm0 hm2
            have HX1 := Lib.hid ((hb.trans (HB1.out.mono hb.size)).trans (hb1.mono (by simp; have := hb.size; omega)))
            have HOW1 := Lib.hid (own_below (own_below HOWN.out HB1.out) hb1)
            obtain ⟨⟨a0, a1, a2⟩, _⟩ := ((Blk.new wo 40 #[.int .i64 t.1, .int .i64 t.2.1, .int .i64 t.2.2]).below hb1 (by simp)).facts3
            have hbz : wo.heap.size + 1 ≤ w1.heap.size := by have := hb1.size; simpa using this
            have HLD := Lib.hid (hL.after HX1.out.drew)
            clear hb1
            go_wp2_with fail
            first
              | (go_region_with (go_at_call 23; refine (HJ.out _ _ w1.drew HLD.out).mono ?_; rintro e w2 ⟨rfl, hb2⟩; have HB2 := Lib.hid hb2; clear hb2))
              | fail
            have HX2 := Lib.hid (HX1.out.drew.trans (HB2.out.mono (Nat.le_trans HX1.out.size (Nat.le_refl _))))
            have HOW2 := Lib.hid (own_below HOW1.out.drew HB2.out)
            have HQ3 := Lib.hid (show q + 1 ≤ maxLen by unfold maxLen; omega)
            have HQ4 := Lib.hid (show (q + 1) * 16 ≤ 140737488355328 by omega)
            have HQ5 := Lib.hid (show ∀ o : Obj, w.heap.size ≤ (w2.alloc o).heap.size from fun o => by simp; have := HX2.out.size; omega)
            go_wp2_with (at_builtin; refine wpList_append_own_at _ rfl _ _ 56 rfl w.heap.size 9 i0 (.string ⟨#[]⟩) 1 16 Tryz.underlying56 HI.out HZ0.out HZ1.out HZ2.out rfl (by decide) _ _ _ rfl (HOW2.out.alloc _) ⟨w2.heap.size, 0, none⟩ 1 1 [.string (bytes (textB t))] rfl rfl (new_str w2 _) (str_one _) HQ3.out HQ4.out (HQ5.out _) ?_; intro v' w3 hown' hgrow _ _)
            have HG := Lib.hid ((HX2.out.alloc HX2.out.size _).grown hgrow (by simp; have := HX2.out.size; omega) (fun g hg => (HOW2.out.lt g hg).1))
            have HO' := Lib.hid hown'
            clear hown' hgrow
            go_wp2
            go_roundw
            case rel => exact ⟨k + 1, by omega, by go_num, trel_push HS0.out rfl HOK.out HLL.out HLE.out HG.out HO'.out HSL.out⟩
            case measure => simp [intOf]; omega
      · rcases hs : stk ts k with _ | ⟨x, S⟩
        · rw [hs, c] at htn; simp at htn
        · rw [hs] at hok hle hown hsl
          have HC := Lib.hid c
          have HOK := Lib.hid (all_cons hok)
          have HLE := Lib.hid hle
          have HST' := Lib.hid (show stk ts (k + 1) = step k t (x :: S) by rw [HST.out, hs])
          rw [List.length_cons] at hown hsl
          generalize hSl : S.length = q at hown hsl
          have HSL := Lib.hid hSl
          obtain ⟨g, gcap, rfl⟩ := slice_of_own hown
          have HOWN := Lib.hid hown
          have hcap := own_cap hown
          clear hs hok hle hown HST htn c hSl
          have e5 : (q : Int) ≤ (q : Int) + 1 := by omega
          have e1 : ¬ gcap = q := by omega
          have e2 : (gcap == q) = false := by simp; omega
          have e3 : ¬ (gcap : Int) = (q : Int) := by omega
          have e4 : ((gcap : Int) == (q : Int)) = false := by simp; omega
          have e6 : (q : Int) < (gcap : Int) := by omega
          have e7 : q < gcap := by omega
          have e8 : ¬ gcap ≤ q := by omega
          have e9 : ¬ q = gcap := by omega
          go_wp2_with fail
          refine (takes_any t _).mono ?_
          rintro e w1 ⟨hb1, m, rfl, hm, hm0, hm2⟩
          obtain rfl : m = 1 := by rw [hm ht0, HC.out]
          rw [hd]
          clear hm hm0 hm2
          have HX1 := Lib.hid ((hb.trans (HB1.out.mono hb.size)).trans (hb1.mono (by simp; have := hb.size; omega)))
          have HOW1 := Lib.hid (own_below (own_below HOWN.out HB1.out) hb1)
          obtain ⟨⟨a0, a1, a2⟩, _⟩ := ((Blk.new wo 40 #[.int .i64 t.1, .int .i64 t.2.1, .int .i64 t.2.2]).below hb1 (by simp)).facts3
          have hbz : wo.heap.size + 1 ≤ w1.heap.size := by have := hb1.size; simpa using this
          have HLD := Lib.hid (hL.after HX1.out.drew)
          clear hb1
          go_wp2_with fail
          have HCG := Lib.hid (show w1.cell? ⟨g, q, none⟩ = some (.string (bytes x.s)) from own_cell HOW1.out q _ (by rw [elVals_cons, List.getElem?_append_right (by rw [elVals_len, HSL.out]; omega), elVals_len, HSL.out]; simp))
          have hgw1 : g < w1.heap.size := (HOW1.out.lt g rfl).2
          have hJ0 := (join1 t (bytes x.s) g q (gcap - q) w1.drew HLD.out ht0 HB.out hgw1 HCG.out (by rw [bytes_size]; exact HLE.out x (by simp)))
          rw [data_bytes] at hJ0
          have HJ := Lib.hid hJ0
          clear hJ0
          by_cases hJ : (unS t x.s).length ≤ 200
          · have HJ2 := Lib.hid (HJ.out.mono fun e w' h => h.ok hJ)
            have HS0 := Lib.hid (HST'.out.trans (un_ok HC.out HOK.out.1 hJ))
            have HJL := Lib.hid hJ
            clear hJ HJ
            first
              | (go_region_with (go_at_call 23; refine (HJ2.out).mono ?_; rintro e w2 ⟨rfl, hb2⟩; have HB2 := Lib.hid hb2; clear hb2))
              | fail
            have HX2 := Lib.hid (HX1.out.drew.trans (HB2.out.mono (Nat.le_trans HX1.out.size (Nat.le_refl _))))
            have HOW2 := Lib.hid (own_take (k := q) (ys := elVals S) (own_below HOW1.out.drew HB2.out) (by rw [elVals_len]; exact HSL.out) ⟨_, elVals_cons x S⟩)
            have HQ3 := Lib.hid (show q + 1 ≤ maxLen by unfold maxLen; omega)
            have HQ4 := Lib.hid (show (q + 1) * 16 ≤ 140737488355328 by omega)
            have HQ5 := Lib.hid (show ∀ o : Obj, w.heap.size ≤ (w2.alloc o).heap.size from fun o => by simp; have := HX2.out.size; omega)
            go_wp2_with (at_builtin; refine wpList_append_own_at _ rfl _ _ 56 rfl w.heap.size 9 i0 (.string ⟨#[]⟩) 1 16 Tryz.underlying56 HI.out HZ0.out HZ1.out HZ2.out rfl (by decide) _ _ _ rfl (HOW2.out.alloc _) ⟨w2.heap.size, 0, none⟩ 1 1 [.string (bytes (unS t x.s))] rfl rfl (new_str w2 _) (str_one _) HQ3.out HQ4.out (HQ5.out _) ?_; intro v' w3 hown' hgrow _ _)
            have HG := Lib.hid ((HX2.out.alloc HX2.out.size _).grown hgrow (by simp; have := HX2.out.size; omega) (fun g hg => (HOW2.out.lt g hg).1))
            have HO' := Lib.hid hown'
            clear hown' hgrow
            go_wp2
            go_roundw
            case rel => exact ⟨k + 1, by omega, by go_num, trel_push HS0.out rfl HOK.out.2 HJL.out (fun y hy => HLE.out y (by simp [hy])) HG.out HO'.out HSL.out⟩
            case measure => simp [intOf]; omega
          · have HJ2 := Lib.hid (HJ.out.mono fun e w' h => h.large (Nat.lt_of_not_le hJ))
            have HT0 := Lib.hid (bad_top HV.out hlt HTOP.out (HST'.out.trans (un_large HC.out hJ)) rfl)
            clear hJ HJ
            first
              | (go_region_with (go_at_call 23; refine (HJ2.out).mono ?_; rintro e w2 ⟨rfl, hb2⟩; have HB2 := Lib.hid hb2; clear hb2))
              | fail
            have HX2 := Lib.hid (HX1.out.drew.trans (HB2.out.mono (Nat.le_trans HX1.out.size (Nat.le_refl _))))
            go_wp2_with fail
            go_ret2
            exact ⟨HX2.out, .inr ⟨HMP.out, top, HTOP.out, .inr ⟨HT0.out, rfl⟩⟩⟩
      · rcases hs : stk ts k with _ | ⟨bb, _ | ⟨aa, S⟩⟩
        · rw [hs, c] at htn; simp at htn
        · rw [hs, c] at htn; simp at htn
        · rw [hs] at hok hle hown hsl
          have HC := Lib.hid c
          have HOK := Lib.hid (all_cons hok)
          have HOK2 := Lib.hid (all_cons (all_cons hok).2)
          have HLE := Lib.hid hle
          have HST' := Lib.hid (show stk ts (k + 1) = step k t (bb :: aa :: S) by rw [HST.out, hs])
          rw [List.length_cons, List.length_cons, show S.length + 1 + 1 = S.length + 2 from rfl] at hown hsl
          generalize hSl : S.length = q at hown hsl
          have HSL := Lib.hid hSl
          obtain ⟨g, gcap, rfl⟩ := slice_of_own2 hown (by omega)
          have HOWN := Lib.hid hown
          have hcap := own_cap hown
          have hca2 : 2 ≤ gcap - q := by omega
          clear hs hok hle hown HST htn c hSl
          have e5 : (q : Int) ≤ (q : Int) + 2 := by omega
          have e1 : ¬ gcap = q := by omega
          have e2 : (gcap == q) = false := by simp; omega
          have e3 : ¬ (gcap : Int) = (q : Int) := by omega
          have e4 : ((gcap : Int) == (q : Int)) = false := by simp; omega
          have e6 : (q : Int) < (gcap : Int) := by omega
          have e7 : q < gcap := by omega
          have e8 : ¬ gcap ≤ q := by omega
          have e9 : ¬ q = gcap := by omega
          go_wp2_with fail
          refine (takes_any t _).mono ?_
          rintro e w1 ⟨hb1, m, rfl, hm, hm0, hm2⟩
          obtain rfl : m = 2 := by rw [hm ht0, HC.out]
          rw [hd]
          clear hm hm0 hm2
          have HX1 := Lib.hid ((hb.trans (HB1.out.mono hb.size)).trans (hb1.mono (by simp; have := hb.size; omega)))
          have HOW1 := Lib.hid (own_below (own_below HOWN.out HB1.out) hb1)
          obtain ⟨⟨a0, a1, a2⟩, _⟩ := ((Blk.new wo 40 #[.int .i64 t.1, .int .i64 t.2.1, .int .i64 t.2.2]).below hb1 (by simp)).facts3
          have hbz : wo.heap.size + 1 ≤ w1.heap.size := by have := hb1.size; simpa using this
          have HLD := Lib.hid (hL.after HX1.out.drew)
          clear hb1
          go_wp2_with fail
          have HCG := Lib.hid (show w1.cell? ⟨g, q, none⟩ = some (.string (bytes aa.s)) from own_cell HOW1.out q _ (by rw [elVals_cons, elVals_cons, List.append_assoc, List.getElem?_append_right (by rw [elVals_len, HSL.out]; omega), elVals_len, HSL.out]; simp))
          have HCH := Lib.hid (show w1.cell? ⟨g, q + 1, none⟩ = some (.string (bytes bb.s)) from own_cell HOW1.out (q + 1) _ (by rw [elVals_cons, elVals_cons, List.append_assoc, List.getElem?_append_right (by rw [elVals_len, HSL.out]; omega), elVals_len, HSL.out]; simp))
          have hgw1 : g < w1.heap.size := (HOW1.out.lt g rfl).2
          have hJ0 := (join2 t (bytes aa.s) (bytes bb.s) g q (gcap - q) w1.drew HLD.out ht0 HB.out hgw1 hca2 HCG.out HCH.out (by rw [bytes_size]; exact HLE.out aa (by simp)) (by rw [bytes_size]; exact HLE.out bb (by simp)))
          rw [data_bytes, data_bytes] at hJ0
          have HJ := Lib.hid hJ0
          clear hJ0
          by_cases hJ : (binS t aa.s bb.s).length ≤ 200
          · have HJ2 := Lib.hid (HJ.out.mono fun e w' h => h.ok hJ)
            have HS0 := Lib.hid (HST'.out.trans (bin_ok HC.out HOK2.out.1 HOK.out.1 hJ))
            have HJL := Lib.hid hJ
            clear hJ HJ
            first
              | (go_region_with (go_at_call 23; refine (HJ2.out).mono ?_; rintro e w2 ⟨rfl, hb2⟩; have HB2 := Lib.hid hb2; clear hb2))
              | fail
            have HX2 := Lib.hid (HX1.out.drew.trans (HB2.out.mono (Nat.le_trans HX1.out.size (Nat.le_refl _))))
            have HOW2 := Lib.hid (own_take (k := q) (ys := elVals S) (own_below HOW1.out.drew HB2.out) (by rw [elVals_len]; exact HSL.out) ⟨_, by rw [elVals_cons, elVals_cons, List.append_assoc]⟩)
            have HQ3 := Lib.hid (show q + 1 ≤ maxLen by unfold maxLen; omega)
            have HQ4 := Lib.hid (show (q + 1) * 16 ≤ 140737488355328 by omega)
            have HQ5 := Lib.hid (show ∀ o : Obj, w.heap.size ≤ (w2.alloc o).heap.size from fun o => by simp; have := HX2.out.size; omega)
            go_wp2_with (at_builtin; refine wpList_append_own_at _ rfl _ _ 56 rfl w.heap.size 9 i0 (.string ⟨#[]⟩) 1 16 Tryz.underlying56 HI.out HZ0.out HZ1.out HZ2.out rfl (by decide) _ _ _ rfl (HOW2.out.alloc _) ⟨w2.heap.size, 0, none⟩ 1 1 [.string (bytes (binS t aa.s bb.s))] rfl rfl (new_str w2 _) (str_one _) HQ3.out HQ4.out (HQ5.out _) ?_; intro v' w3 hown' hgrow _ _)
            have HG := Lib.hid ((HX2.out.alloc HX2.out.size _).grown hgrow (by simp; have := HX2.out.size; omega) (fun g hg => (HOW2.out.lt g hg).1))
            have HO' := Lib.hid hown'
            clear hown' hgrow
            go_wp2
            go_roundw
            case rel => exact ⟨k + 1, by omega, by go_num, trel_push HS0.out rfl HOK2.out.2 HJL.out (fun y hy => HLE.out y (by simp [hy])) HG.out HO'.out HSL.out⟩
            case measure => simp [intOf]; omega
          · have HJ2 := Lib.hid (HJ.out.mono fun e w' h => h.large (Nat.lt_of_not_le hJ))
            have HT0 := Lib.hid (bad_top HV.out hlt HTOP.out (HST'.out.trans (bin_large HC.out hJ)) rfl)
            clear hJ HJ
            first
              | (go_region_with (go_at_call 23; refine (HJ2.out).mono ?_; rintro e w2 ⟨rfl, hb2⟩; have HB2 := Lib.hid hb2; clear hb2))
              | fail
            have HX2 := Lib.hid (HX1.out.drew.trans (HB2.out.mono (Nat.le_trans HX1.out.size (Nat.le_refl _))))
            go_wp2_with fail
            go_ret2
            exact ⟨HX2.out, .inr ⟨HMP.out, top, HTOP.out, .inr ⟨HT0.out, rfl⟩⟩⟩
    · obtain rfl : k = ts.length := by omega
      rw [HTOP.out] at hok hle hown
      have HOK := Lib.hid (all_cons hok)
      obtain ⟨g, gcap, rfl⟩ := slice_of_own hown
      have hcg : wo.cell? ⟨g, 0, none⟩ = some (.string (bytes top.s)) := own_cell hown 0 _ (by simp [elVals])
      clear hok hle hown
      go_wp2_with fail
      go_ret2
      exact ⟨hb, .inr ⟨HMP.out, top, HTOP.out, .inl ⟨HOK.out.1, rfl⟩⟩⟩
set_option maxHeartbeats 1000000 in
theorem text_maynot (v : Value) (ts : List Tk) (w : World) (hv : ToksAt w v ts) (hl : ts.length ≤ 1000000) (hm : mayP ts = false) : Calls Tryz.prog 11 #[v] w (TxPost ts w) := by
  have HM := Lib.hid (may_any v ts w hv hl)
  have HMP := Lib.hid hm
  obtain ⟨A, cap, rfl, hc, hel⟩ := hv
  clear hel hm
  go_enter Tryz.func11, Tryz.ntmps11
  go_wp2_with fail
  refine HM.out.mono ?_
  rintro e w0 ⟨rfl, hb0⟩
  rw [HMP.out]
  have HB0 := Lib.hid hb0
  clear hb0
  go_wp2_with fail
  go_ret2
  exact ⟨HB0.out, .inl ⟨HMP.out, rfl⟩⟩
theorem ptext_any (v : Value) (ts : List Tk) (w : World) (hL : Laid w) (hv : ToksAt w v ts) (hn : ∀ t ∈ ts, t.2.1 ≤ 9223372036854775807) (hl : ts.length ≤ 1000000) : Calls Tryz.prog 11 #[v] w (TxPost ts w) := by
  cases hm : mayP ts with
  | true => exact text_may v ts w hL hv hn hm
  | false => exact text_maynot v ts w hv hl hm
end Go.Proofs.YtdeopkjpglkdhaaGreatDoor
