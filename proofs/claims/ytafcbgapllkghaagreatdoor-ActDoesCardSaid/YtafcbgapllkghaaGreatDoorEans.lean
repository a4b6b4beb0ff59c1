/- The contract of the document's End at any place; of its Type and Eval. -/
import Derived.Test.YtafcbgapllkghaaGreatDoorEendb
import Derived.Test.YtafcbgapllkghaaGreatDoorEevalw
namespace Go.Proofs.YtafcbgapllkghaaGreatDoor
open Go.ChangeShapes Go.WideShapes Go.ChangeAt Go.RowKit
set_option linter.unusedVariables false

def REnd (m : Md) (ts : List Tk) (n : Nat) : Prop := ∀ (A : Option Addr) (cap : Nat) (ve : Value) (at_ : Nat) (x : El) (S : List El) (u : Vl) (VS : List Vl) (z : Int) (w : World), at_ < n → at_ < ts.length → ts.length ≤ 100 → m.env.length ≤ 1000 → Valid ts (at_ + 1) → ToksAt w (.slice A ts.length cap) ts → NumsAt w ve m.env →
    (∀ t ∈ ts, t.2.1 ≤ 9223372036854775807) → (∀ y ∈ m.env, F64 y) → stk ts (at_ + 1) = x :: S → vs m ts (at_ + 1) = u :: VS → z = (at_ : Int) →
    Calls Tryz.prog 24 #[.slice A ts.length cap, .int .i64 z, ve, .int .i64 m.vars, .bool m.ty] w (EPost u x.f w)
theorem bad_ne {c : Int} (h : Good (.bad c)) : c ≠ 0 := by rcases h with h | h | h <;> omega
theorem un_end (m : Md) (ts : List Tk) (b o cap k f : Nat) (t : Tk) (y : Vl) (ve : Value) (w : World) (hk : k < ts.length) (hk1 : 1 ≤ k) (hl : ts.length ≤ 100) (ht : tak t = 1) (hg : Good y) (hlt : b < w.heap.size) (c0 : w.cell? ⟨b, o + k * 3, none⟩ = some (.int .i64 t.1)) (c1 : w.cell? ⟨b, o + k * 3 + 1, none⟩ = some (.int .i64 t.2.1)) (c2 : w.cell? ⟨b, o + k * 3 + 2, none⟩ = some (.int .i64 t.2.2)) (hcc : ts.length ≤ cap)
    (HIH : ∀ w' z, Below w.heap.size w w' → z = ((k - 1 : Nat) : Int) → Calls Tryz.prog 24 #[.slice (some ⟨b, o, none⟩) ts.length cap, .int .i64 z, ve, .int .i64 m.vars, .bool m.ty] w' (EPost y f w')) :
    Calls Tryz.prog 24 #[.slice (some ⟨b, o, none⟩) ts.length cap, .int .i64 (k : Int), ve, .int .i64 m.vars, .bool m.ty] w (EPost (unV t y) f w) := by
  rcases tkk_one ht with rfl | rfl
  · cases y with
    | bad c => exact end_not_bad ts b o cap k f m.vars m.ty ve w hk hk1 hl c (bad_ne hg) hlt c0 c1 c2 hcc HIH
    | ok k' n =>
      rcases good_kind hg with rfl | rfl
      · exact end_not_no ts b o cap k f m.vars m.ty ve w hk hk1 hl n hlt c0 c1 c2 hcc HIH
      · exact end_not_ok ts b o cap k f m.vars m.ty ve w hk hk1 hl n hlt c0 c1 c2 hcc HIH
  · cases y with
    | bad c => exact end_neg_bad ts b o cap k f m.vars m.ty ve w hk hk1 hl c (bad_ne hg) hlt c0 c1 c2 hcc HIH
    | ok k' n =>
      rcases good_kind hg with rfl | rfl
      · exact end_neg_ok ts b o cap k f m.vars m.ty ve w hk hk1 hl n hlt c0 c1 c2 hcc HIH
      · exact end_neg_no ts b o cap k f m.vars m.ty ve w hk hk1 hl n hlt c0 c1 c2 hcc HIH
theorem bin_end (m : Md) (ts : List Tk) (b o cap k f fb : Nat) (t : Tk) (x y : Vl) (ve : Value) (w : World) (hk : k < ts.length) (hk1 : 1 ≤ k) (hl : ts.length ≤ 100) (ht : tak t = 2) (hgx : Good x) (hgy : Good y) (hfb : 1 ≤ fb ∧ fb ≤ k) (hlt : b < w.heap.size) (c0 : w.cell? ⟨b, o + k * 3, none⟩ = some (.int .i64 t.1)) (c1 : w.cell? ⟨b, o + k * 3 + 1, none⟩ = some (.int .i64 t.2.1)) (c2 : w.cell? ⟨b, o + k * 3 + 2, none⟩ = some (.int .i64 t.2.2)) (hcc : ts.length ≤ cap)
    (HIH : ∀ w' z, Below w.heap.size w w' → z = ((k - 1 : Nat) : Int) → Calls Tryz.prog 24 #[.slice (some ⟨b, o, none⟩) ts.length cap, .int .i64 z, ve, .int .i64 m.vars, .bool m.ty] w' (EPost y fb w'))
    (HIH2 : ∀ w' z, Below w.heap.size w w' → z = ((fb - 1 : Nat) : Int) → Calls Tryz.prog 24 #[.slice (some ⟨b, o, none⟩) ts.length cap, .int .i64 z, ve, .int .i64 m.vars, .bool m.ty] w' (EPost x f w')) :
    Calls Tryz.prog 24 #[.slice (some ⟨b, o, none⟩) ts.length cap, .int .i64 (k : Int), ve, .int .i64 m.vars, .bool m.ty] w (EPost (binV m.ty t x y) f w) := by
  obtain ⟨kd, rfl, h3, h13⟩ := tkk_two ht
  cases x with
  | bad c => exact end_bin_abad ts b o cap k f fb kd m.vars m.ty ve w hk hk1 hl ⟨h3, h13⟩ hfb c (bad_ne hgx) y hlt c0 c1 c2 hcc HIH HIH2
  | ok ak an =>
    cases y with
    | bad d => exact end_bin_bbad ts b o cap k f fb kd m.vars m.ty ve w hk hk1 hl ⟨h3, h13⟩ hfb ak an d (bad_ne hgy) hlt c0 c1 c2 hcc HIH HIH2
    | ok bk bn =>
      rw [binV_ok]
      cases hV : twoV kd ak an bk bn with
      | ok vk vn =>
        rw [if_neg (by simp [Vl.code])]
        exact end_bin_ok ts b o cap k f fb kd m.vars m.ty ve w hk hk1 hl ⟨h3, h13⟩ hfb ak an bk bn ⟨hgx, hgy⟩ vk vn hV hlt c0 c1 c2 hcc HIH HIH2
      | bad vc =>
        by_cases h9 : vc = 9
        · subst h9
          cases hty : m.ty with
          | true =>
            rw [if_pos (by simp [Vl.code])]
            rw [hty] at HIH HIH2
            exact end_bin_b9t ts b o cap k f fb kd m.vars ve w hk hk1 hl ⟨h3, h13⟩ hfb ak an bk bn ⟨hgx, hgy⟩ hV hlt c0 c1 c2 hcc HIH HIH2
          | false =>
            rw [if_neg (by simp)]
            rw [hty] at HIH HIH2
            exact end_bin_b9e ts b o cap k f fb kd m.vars ve w hk hk1 hl ⟨h3, h13⟩ hfb ak an bk bn ⟨hgx, hgy⟩ hV hlt c0 c1 c2 hcc HIH HIH2
        · rw [if_neg (by simp [Vl.code]; intro _ h; exact absurd h h9)]
          exact end_bin_b8 ts b o cap k f fb kd m.vars m.ty ve w hk hk1 hl ⟨h3, h13⟩ hfb ak an bk bn ⟨hgx, hgy⟩ vc h9 hV hlt c0 c1 c2 hcc HIH HIH2
theorem leaf_end (m : Md) (ts : List Tk) (b o cap k : Nat) (t : Tk) (ve : Value) (w : World) (hk : k < ts.length) (hl : ts.length ≤ 100) (hel : m.env.length ≤ 1000) (hE : NumsAt w ve m.env) (ht : tak t = 0) (hlt : b < w.heap.size) (c0 : w.cell? ⟨b, o + k * 3, none⟩ = some (.int .i64 t.1)) (c1 : w.cell? ⟨b, o + k * 3 + 1, none⟩ = some (.int .i64 t.2.1)) (c2 : w.cell? ⟨b, o + k * 3 + 2, none⟩ = some (.int .i64 t.2.2)) (hcc : ts.length ≤ cap) :
    Calls Tryz.prog 24 #[.slice (some ⟨b, o, none⟩) ts.length cap, .int .i64 (k : Int), ve, .int .i64 m.vars, .bool m.ty] w (EPost (leafV m t) k w) := by
  obtain ⟨h2, h0, hk'⟩ := tkk_zero ht
  obtain ⟨kd, x, a⟩ := t
  simp only at h2 h0 hk' c0 c1 c2
  subst h2
  rcases hk' with rfl | ⟨rfl, hx⟩ | ⟨rfl, rfl⟩ | ⟨rfl, rfl⟩
  · exact end_num ts b o cap k x m.vars ve w hk hl m.ty hlt c0 c1 c2 hcc
  · unfold leafV Md.lim
    simp only
    rw [if_neg (by omega), if_pos trivial]
    cases hty : m.ty with
    | true =>
      rw [if_pos rfl]
      by_cases hv : x < m.vars
      · rw [if_pos hv]; exact end_var_t ts b o cap k x m.vars ve w hk hl hv hlt c0 c1 c2 hcc
      · rw [if_neg hv]; exact end_var_tb ts b o cap k x m.vars ve w hk hl (by omega) hlt c0 c1 c2 hcc
    | false =>
      rw [if_neg Bool.false_ne_true]
      obtain ⟨eA, ecap, rfl, hec, hei⟩ := hE
      by_cases hv : x < (m.env.length : Int)
      · rw [if_pos hv, if_neg Bool.false_ne_true]
        obtain ⟨j, rfl⟩ : ∃ j : Nat, x = (j : Int) := ⟨x.toNat, by omega⟩
        have hj : j < m.env.length := by omega
        obtain ⟨vb, vo, rfl, hvb, cv⟩ := hei j m.env[j] (List.getElem?_eq_getElem hj)
        have hg : m.env.getD ((j : Int).toNat) 0 = m.env[j] := by rw [Int.toNat_natCast, List.getD, List.getElem?_eq_getElem hj]; rfl
        rw [hg]
        exact end_var_e ts b o cap k m.vars w hk hl vb vo ecap m.env.length j m.env[j] hel hj hvb cv hlt c0 c1 c2 hcc
      · rw [if_neg hv]
        exact end_var_eb ts b o cap k x m.vars w hk hl eA ecap m.env.length hel (by omega) hlt c0 c1 c2 hcc
  · exact end_true ts b o cap k m.vars ve w hk hl m.ty hlt c0 c1 c2 hcc
  · exact end_false ts b o cap k m.vars ve w hk hl m.ty hlt c0 c1 c2 hcc
theorem end_all (m : Md) (ts : List Tk) : ∀ n, REnd m ts n
  | 0 => fun A cap ve at_ x S u VS z w h => by omega
  | n + 1 => fun A cap ve k x S u VS z w hn hk hl hel hV hv hE hN hef hst hvs hz => by
    subst hz
    have ih := end_all m ts n
    have hg : ts[k]? = some ts[k] := List.getElem?_eq_getElem hk
    have hgd : ts.getD k (0, 0, 0) = ts[k] := by simp [List.getD, hg]
    obtain ⟨h0, h1⟩ := hV k (by omega)
    have hvl := vs_len m ts k (by omega) (hV.mono (by omega))
    have hgood := vs_good m hN hef k (by omega) (hV.mono (by omega))
    rw [stk_succ] at hst
    rw [vs_succ m hk] at hvs
    rw [hgd] at h0 h1 hst hvs
    obtain ⟨b, o, rfl, hlt, c0, c1, c2, hcc⟩ := tok_lies hv hg
    generalize ts[k] = t at *
    rcases tak_cases t with c | c | c | c
    · omega
    · rw [step0 _ c] at hst
      rw [vstep0 _ c] at hvs
      injection hst with hx hS
      injection hvs with hu hVS
      subst hx; subst hu
      exact leaf_end m ts b o cap k t ve w hk hl hel hE c hlt c0 c1 c2 hcc
    · rcases hs : stk ts k with _ | ⟨y, S'⟩
      · rw [hs, c] at h1; simp at h1
      · rcases hw : vs m ts k with _ | ⟨y', VS'⟩
        · rw [hs, hw] at hvl; simp at hvl
        · rw [hs, step1 _ _ c] at hst
          rw [hw, vstep1 _ _ c] at hvs
          injection hst with hx hS
          injection hvs with hu hVS
          subst hx; subst hu
          have hk1 : 1 ≤ k := by
            rcases Nat.eq_zero_or_pos k with rfl | h
            · cases hs
            · exact h
          rw [hw] at hgood
          exact un_end m ts b o cap k y.f t y' ve w hk hk1 hl c (hgood y' (by simp)) hlt c0 c1 c2 hcc fun w' z hb hz =>
            ih _ cap ve (k - 1) y S' y' VS' z w' (by omega) (by omega) hl hel (hV.mono (by omega)) (hv.below hb) (hE.below hb) hN hef (by rw [show k - 1 + 1 = k by omega]; exact hs) (by rw [show k - 1 + 1 = k by omega]; exact hw) hz
    · rcases hs : stk ts k with _ | ⟨y, _ | ⟨a, S'⟩⟩
      · rw [hs, c] at h1; simp at h1
      · rw [hs, c] at h1; simp at h1
      · rcases hw : vs m ts k with _ | ⟨y', _ | ⟨a', VS'⟩⟩
        · rw [hs, hw] at hvl; simp at hvl
        · rw [hs, hw] at hvl; simp at hvl
        · rw [hs, step2 _ _ _ c] at hst
          rw [hw, vstep2 _ _ _ c] at hvs
          injection hst with hx hS
          injection hvs with hu hVS
          subst hx; subst hu
          have hk1 : 1 ≤ k := by
            rcases Nat.eq_zero_or_pos k with rfl | h
            · cases hs
            · exact h
          have hun := stk_under ts k k (Nat.le_refl _) (hV.mono (by omega)) y (a :: S') hs
          have hvn := vs_under m ts k k (Nat.le_refl _) (by omega) (hV.mono (by omega)) y (a :: S') y' (a' :: VS') hs hw
          have hbf1 : 1 ≤ y.f := by
            rcases Nat.eq_zero_or_pos y.f with h | h
            · have h2 := hun.2; rw [h] at h2; cases h2
            · exact h
          rw [hw] at hgood
          exact bin_end m ts b o cap k a.f y.f t a' y' ve w hk hk1 hl c (hgood a' (by simp)) (hgood y' (by simp)) ⟨hbf1, by omega⟩ hlt c0 c1 c2 hcc
            (fun w' z hb hz => ih _ cap ve (k - 1) y (a :: S') y' (a' :: VS') z w' (by omega) (by omega) hl hel (hV.mono (by omega)) (hv.below hb) (hE.below hb) hN hef (by rw [show k - 1 + 1 = k by omega]; exact hs) (by rw [show k - 1 + 1 = k by omega]; exact hw) hz)
            (fun w' z hb hz => ih _ cap ve (y.f - 1) a S' a' VS' z w' (by omega) (by omega) hl hel (hV.mono (by omega)) (hv.below hb) (hE.below hb) hN hef (by rw [show y.f - 1 + 1 = y.f by omega]; exact hun.2.symm) (by rw [show y.f - 1 + 1 = y.f by omega]; exact hvn.symm) hz)
/-- the whole's value, by the document -/
theorem end_top (m : Md) (ts : List Tk) (A : Option Addr) (cap : Nat) (ve : Value) (z : Int) (w : World) (hm : mayP ts = true) (hel : m.env.length ≤ 1000) (hv : ToksAt w (.slice A ts.length cap) ts) (hE : NumsAt w ve m.env) (hN : ∀ t ∈ ts, t.2.1 ≤ 9223372036854775807) (hef : ∀ y ∈ m.env, F64 y) (hz : z = (ts.length : Int) - 1) :
    Calls Tryz.prog 24 #[.slice A ts.length cap, .int .i64 z, ve, .int .i64 m.vars, .bool m.ty] w (fun e w' => ∃ f : Nat, EPost (ans m ts) f w e w') ∧ 1 ≤ ts.length := by
  obtain ⟨hl, hV, htop⟩ := ans_may m hm
  obtain ⟨_, _, x, hx⟩ := mayP_valid hm
  have h1 : 1 ≤ ts.length := by
    rcases Nat.eq_zero_or_pos ts.length with h | h
    · rw [h] at hx; cases hx
    · exact h
  have e1 : ts.length - 1 + 1 = ts.length := by omega
  exact ⟨(end_all m ts ts.length A cap ve (ts.length - 1) x [] (ans m ts) [] z w (by omega) (by omega) hl hel (by rw [e1]; exact hV) hv hE hN hef (by rw [e1]; exact hx) (by rw [e1]; exact htop) (by omega)).mono fun e w' h => ⟨_, h⟩, h1⟩
end Go.Proofs.YtafcbgapllkghaaGreatDoor
/- The contracts of expr.Type and expr.Eval at any tokens, of the document's Type and Eval. -/
namespace Go.Proofs.YtafcbgapllkghaaGreatDoor
open Go.ChangeShapes Go.WideShapes Go.ChangeAt Go.RowKit
set_option linter.unusedVariables false

theorem ans_not (m : Md) {ts : List Tk} (h : mayP ts = false) : ans m ts = .bad 2 := by unfold ans; rw [if_neg (by rw [h]; exact Bool.false_ne_true)]
set_option maxHeartbeats 1000000 in
theorem eval_any (v ve : Value) (ts : List Tk) (env : List Int) (w : World) (hv : ToksAt w v ts) (hl : ts.length ≤ 1000) (hE : NumsAt w ve env) (hel : env.length ≤ 1000) (hef : ∀ x ∈ env, F64 x) (hn : ∀ t ∈ ts, t.2.1 ≤ 9223372036854775807) : Calls Tryz.prog 19 #[v, ve] w (VPost (ans ⟨false, env, 0⟩ ts) w) := by
  cases hm : mayP ts with
  | true => exact eval_may v ve ts env w hv hE hel hef hn hm
  | false =>
    have HBA := Lib.hid ((Below.refl w.heap.size w).alloc (Nat.le_refl _) (.cells #[.int .i64 0, .int .i64 0] 43))
    have HM := Lib.hid (may_any v ts _ (hv.below HBA.out) (by omega))
    have HMP := Lib.hid hm
    have HA := Lib.hid (ans_not ⟨false, env, 0⟩ hm)
    obtain ⟨A, cap, rfl, hc, hel⟩ := hv
    clear hel hm
    go_enter Tryz.func19, Tryz.ntmps19
    go_wp2_with fail
    refine HM.out.mono ?_
    rintro e w0 ⟨rfl, hb0⟩
    rw [HMP.out]
    have HB0 := Lib.hid (HBA.out.trans (hb0.mono HBA.out.size))
    have HR0 := Lib.hid ((Blk.new w 43 #[.int .i64 0, .int .i64 0]).below hb0 (by simp))
    obtain ⟨⟨r0, r1⟩, f0, f1⟩ := HR0.out.facts2
    clear hb0
    go_wp2_with fail
    refine bodyPost_ret (results_pair Tryz.results19 _ _ w.heap.size _ _ (by rfl) (HR0.out.set2 _ _)) rfl ⟨(HB0.out.setCell (by simp) _).setCell (by simp) _, ?_⟩
    rw [HA.out]
    rfl
theorem valOf_is (u : Vl) (h : u.code = 0 → ∃ k n, u = .ok k n) : valOf u = .agg #[.int .i64 u.kind, .int .i64 u.num, .int .i64 u.code] := by cases u <;> rfl
theorem valOf_parts (u : Vl) : valOf u = .agg #[.int .i64 u.kind, .int .i64 u.num, .int .i64 u.code] := by cases u <;> rfl
set_option maxHeartbeats 4000000 in
set_option maxRecDepth 100000 in
theorem reval_any (v ve : Value) (ts : List Tk) (env : List Int) (w : World) (hv : ToksAt w v ts) (hl : ts.length ≤ 1000) (hE : NumsAt w ve env) (hel : env.length ≤ 1000) (hef : ∀ x ∈ env, F64 x) (hn : ∀ t ∈ ts, t.2.1 ≤ 9223372036854775807) :
    Calls Tryz.prog 17 #[v, ve] w fun e w' => e = .returned (.tuple #[.agg #[.int .i64 (ans ⟨false, env, 0⟩ ts).kind, .int .i64 (ans ⟨false, env, 0⟩ ts).num], .int .i64 (ans ⟨false, env, 0⟩ ts).code]) ∧ Below w.heap.size w w' := by
  have HBA := Lib.hid ((Below.refl w.heap.size w).alloc (Nat.le_refl _) (.cells #[.int .i64 0, .int .i64 0] 43))
  have HM := Lib.hid (rmay_any v ts _ (hv.below HBA.out) hl)
  cases hm : mayP ts with
  | true =>
    have HMP := Lib.hid hm
    have HV := Lib.hid hv
    obtain ⟨A, cap, rfl, hc, hel2⟩ := hv
    have HT := Lib.hid (fun W z (hb : Below w.heap.size w W) hz => (end_top ⟨false, env, 0⟩ ts A cap ve z W hm hel (HV.out.below hb) (hE.below hb) hn hef hz).1)
    have hpos := (end_top ⟨false, env, 0⟩ ts A cap ve _ w hm hel HV.out hE hn hef rfl).2
    generalize (ans ⟨false, env, 0⟩ ts) = a at *
    obtain ⟨eA, ecap, rfl, hec, hei⟩ := hE
    clear hel2 hm hn hei
    go_enter Tryz.func17, Tryz.ntmps17
    go_wp2_with fail
    refine HM.out.mono ?_
    rintro e w0 ⟨rfl, hb0⟩
    rw [HMP.out]
    have HB0 := Lib.hid (HBA.out.trans (hb0.mono HBA.out.size))
    have HR0 := Lib.hid ((Blk.new w 43 #[.int .i64 0, .int .i64 0]).below hb0 (by simp))
    clear hb0
    go_wp2_with fail
    refine (HT.out _ _ HB0.out (by omega)).mono ?_
    rintro e w1 ⟨f, rfl, hb1⟩
    rw [valOf_parts]
    have HB1 := Lib.hid (HB0.out.trans (hb1.mono HB0.out.size))
    have HR1 := Lib.hid (HR0.out.below hb1 HR0.out.lt)
    have hw1 : w.heap.size < w1.heap.size := HR1.out.lt
    have HBN := Lib.hid (HB1.out.alloc HB1.out.size (.cells #[.int .i64 a.kind, .int .i64 a.num, .int .i64 a.code] 71))
    have HRN := Lib.hid (HR1.out.alloc (.cells #[.int .i64 a.kind, .int .i64 a.num, .int .i64 a.code] 71))
    have HCN := Lib.hid (Blk.new w1 71 #[.int .i64 a.kind, .int .i64 a.num, .int .i64 a.code])
    clear hb1
    go_wp2_with fail
    generalize hg1 : w1.heap.size = g1 at *
    generalize w1.alloc (.cells #[.int .i64 a.kind, .int .i64 a.num, .int .i64 a.code] 71) = w2 at *
    obtain ⟨⟨r0, r1⟩, f0, f1⟩ := HRN.out.facts2
    obtain ⟨⟨n0, n1, n2⟩, _⟩ := HCN.out.facts3
    have hne : ¬ g1 = w.heap.size := by omega
    have hne2 : ¬ w.heap.size = g1 := by omega
    go_region
    all_goals
      go_wp2_with fail
      refine bodyPost_ret (results_pair Tryz.results17 _ _ w.heap.size _ _ (by rfl) ((HRN.out.drewN 1).set2 _ _)) rfl ⟨rfl, ((below_drewN HBN.out 1).setCell (by simp) _).setCell (by simp) _⟩
  | false =>
    have HMP := Lib.hid hm
    have HA := Lib.hid (ans_not ⟨false, env, 0⟩ hm)
    obtain ⟨A, cap, rfl, hc, hel2⟩ := hv
    clear hel2 hm
    go_enter Tryz.func17, Tryz.ntmps17
    go_wp2_with fail
    refine HM.out.mono ?_
    rintro e w0 ⟨rfl, hb0⟩
    rw [HMP.out]
    have HB0 := Lib.hid (HBA.out.trans (hb0.mono HBA.out.size))
    have HR0 := Lib.hid ((Blk.new w 43 #[.int .i64 0, .int .i64 0]).below hb0 (by simp))
    obtain ⟨⟨r0, r1⟩, f0, f1⟩ := HR0.out.facts2
    clear hb0
    go_wp2_with fail
    refine bodyPost_ret (results_pair Tryz.results17 _ _ w.heap.size _ _ (by rfl) (HR0.out.set2 _ _)) rfl ⟨?_, (HB0.out.setCell (by simp) _).setCell (by simp) _⟩
    rw [HA.out]
    rfl
end Go.Proofs.YtafcbgapllkghaaGreatDoor
