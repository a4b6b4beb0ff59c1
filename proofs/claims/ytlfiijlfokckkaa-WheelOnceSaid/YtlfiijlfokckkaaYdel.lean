/- Rows of timers in memory; slices.IndexFunc and slices.DeleteFunc over them, with Cancel's function value. -/
import Derived.Test.YtlfiijlfokckkaaYcmp
import Derived.Lib.SliceRun
import Derived.BigQuiet
namespace Go.Proofs.Ytlfiijlfokckkaa
open Go.ChangeShapes Go.WideShapes Go.ChangeAt Go.RowKit
set_option linter.unusedVariables false

theorem Blk.facts3 {w : World} {g : Nat} {t : TypeId} {x y z : Value} (h : Blk w g t #[x, y, z]) :
    (w.cell? ⟨g, 0, none⟩ = some x ∧ w.cell? ⟨g, 1, none⟩ = some y ∧ w.cell? ⟨g, 2, none⟩ = some z) ∧ (w.frozen? ⟨g, 0, none⟩ = false ∧ w.frozen? ⟨g, 1, none⟩ = false ∧ w.frozen? ⟨g, 2, none⟩ = false) :=
  ⟨⟨h.cell 0, h.cell 1, h.cell 2⟩, h.frozen 0, h.frozen 1, h.frozen 2⟩
abbrev tmVal (c : Tm) : Value := .agg #[.int .i64 c.id, .int .i64 c.tick, .int .i64 c.wh]
abbrev tmArr (c : Tm) : Array Value := #[.int .i64 c.id, .int .i64 c.tick, .int .i64 c.wh]
def rowT (kept : List Tm) : List Value := kept.flatMap encT
def TmAt (w : World) (b o : Nat) (c : Tm) : Prop := w.cell? ⟨b, o, none⟩ = some (.int .i64 c.id) ∧ w.cell? ⟨b, o + 1, none⟩ = some (.int .i64 c.tick) ∧ w.cell? ⟨b, o + 2, none⟩ = some (.int .i64 c.wh)
theorem TmAt.keeps : Keeps TmAt := fun w w' b o x hb hlt h => ⟨(hb.cell (p := ⟨b, _, none⟩) hlt).trans h.1, (hb.cell (p := ⟨b, _, none⟩) hlt).trans h.2.1, (hb.cell (p := ⟨b, _, none⟩) hlt).trans h.2.2⟩
def TmsAt (w : World) (v : Value) (l : List Tm) : Prop := RowsAt 3 TmAt w v l
theorem TmsAt.below {w w' : World} {v : Value} {l : List Tm} (h : TmsAt w v l) (hb : Below w.heap.size w w') : TmsAt w' v l := RowsAt.below TmAt.keeps h hb
theorem tms_of_own {w : World} {B : Nat} {v : Value} {l : List Tm} (h : w.ownsRow B 30 3 v l.length (rowT l)) : TmsAt w v l := by
  have := RowAt.rows (val := fun x : Tm => x) (P := TmAt) (RowAt.of_own (cells := encT) (n := 3) (fun _ => rfl) h) (fun r _ b o hc => ⟨hc 0 _ rfl, hc 1 _ rfl, hc 2 _ rfl⟩)
  rwa [List.map_id'] at this
/-- what is asked of a function value: at each of a row's choices, in each later world -/
def PredOk (F : Nat) (caps : Array Value) (p : Tm → Bool) (kept : List Tm) (w : World) : Prop :=
  ∀ (W : World) (x : Tm), x ∈ kept → Below w.heap.size w W → Calls Try.prog F (#[tmVal x] ++ caps) W fun e w' => e = .returned (.bool (p x)) ∧ Below W.heap.size W w'
def IdxAns (p : Tm → Bool) (kept : List Tm) (r : Int) : Prop :=
  (r = -1 ∧ kept.any p = false) ∨ ∃ k : Nat, r = (k : Int) ∧ k < kept.length ∧ (∀ c, kept[k]? = some c → p c = true) ∧ ∀ j c, j < k → kept[j]? = some c → p c = false
set_option maxHeartbeats 1000000 in
theorem indexC_any (F : Nat) (caps : Array Value) (p : Tm → Bool) (v : Value) (kept : List Tm) (w : World) (hE : Enters F) (hp : PredOk F caps p kept w) (hv : TmsAt w v kept) (hl : kept.length ≤ 1000) :
    Calls Try.prog 17 #[v, .func (.func F) #[] caps] w fun e w' => Below w.heap.size w w' ∧ ∃ r, e = .returned (.int .i64 r) ∧ IdxAns p kept r := by
  have HP := Lib.hid hp
  obtain ⟨A, cap, rfl, hcap, he⟩ := hv
  have HE := Lib.hid he
  unfold Enters at hE
  clear hp he
  go_enter Try.func17, Try.ntmps17
  go_wp2_with fail
  go_loopw [8] (fun i wr => ∃ k : Nat, k ≤ kept.length ∧ i = .int .i64 (k : Int) ∧ Hid (∀ j c, j < k → kept[j]? = some c → p c = false) ∧ Below w.heap.size w wr) (fun i _ => kept.length - (intOf i).toNat)
  case atStart => exact ⟨0, Nat.zero_le _, rfl, Lib.hid (fun j c hj => absurd hj (Nat.not_lt_zero _)), Below.refl _ _⟩
  case round =>
    obtain ⟨k, hk, rfl, HK, hb⟩ := hrel
    obtain ⟨wo, rfl⟩ : ∃ wo : World, wo = wr := ⟨_, rfl⟩
    have HB := Lib.hid hb
    by_cases hlt : k < kept.length
    · have hx := List.getElem?_eq_getElem hlt
      obtain ⟨b, o, rfl, hbl, hc⟩ := HE.out k _ hx
      have hcall := HP.out wo kept[k] (List.getElem_mem hlt) hb
      obtain ⟨c0, c1, c2⟩ := TmAt.keeps w wo b _ _ hb hbl hc
      generalize kept[k] = x at *
      have HX := Lib.hid hx
      have HCALL := Lib.hid hcall
      obtain ⟨num, src, left⟩ := x
      simp only at c0 c1 c2
      clear hc hb hx hcall
      go_wp2_with fail
      refine HCALL.out.mono ?_
      rintro e w1 ⟨rfl, hb1⟩
      have HB1 := Lib.hid (HB.out.trans (hb1.mono HB.out.size))
      clear hb1
      cases hq : p ⟨num, src, left⟩ with
      | true =>
        have HQ := Lib.hid hq
        clear hq
        go_wp2_with fail
        go_ret
        exact ⟨HB1.out, _, rfl, .inr ⟨k, rfl, hlt, fun c hc => by rw [HX.out] at hc; injection hc with hc; subst hc; exact HQ.out, HK.out⟩⟩
      | false =>
        have HQ := Lib.hid hq
        clear hq
        go_wp2_with fail
        go_roundw
        case rel => exact ⟨k + 1, by omega, by go_num, Lib.hid (fun j c hj hc => by
          by_cases hjk : j = k
          · subst hjk; rw [HX.out] at hc; injection hc with hc; subst hc; exact HQ.out
          · exact HK.out j c (by omega) hc), HB1.out⟩
        case measure => simp [intOf]; omega
    · obtain rfl : k = kept.length := by omega
      go_wp2_with fail
      go_ret
      refine ⟨HB.out, _, rfl, .inl ⟨rfl, ?_⟩⟩
      rw [List.any_eq_false]
      intro c hc
      obtain ⟨j, hj⟩ := List.getElem?_of_mem hc
      have := HK.out j c (List.getElem?_eq_some_iff.1 hj).1 hj
      simp [this]
theorem enters15 : Enters 15 := enters_of Try.func15 (by kernel_rfl) rfl
theorem among_any (x : Tm) (i : Int) (h : Nat) (W : World) (hh : Blk W h 3 #[.int .i64 i]) :
    Calls Try.prog 15 #[tmVal x, .pointer (some ⟨h, 0, none⟩)] W fun e w' => e = .returned (.bool (decide (x.id = i))) ∧ Below W.heap.size W w' := by
  have c0 := (hh.alloc (.cells (tmArr x) 30)).cell 0
  simp at c0
  have HB := Lib.hid (below_box W (.cells (tmArr x) 30))
  obtain ⟨num, src, left⟩ := x
  clear hh
  go_enter Try.func15, Try.ntmps15
  go_wp2_with fail
  go_ret
  exact ⟨ret_bool rfl, HB.out⟩
def CellsC (cur : Array Value) (q : Nat) (c : Tm) : Prop := cur[q * 3]? = some (.int .i64 c.id) ∧ cur[q * 3 + 1]? = some (.int .i64 c.tick) ∧ cur[q * 3 + 2]? = some (.int .i64 c.wh)
/-- i are kept of the first j; behind them it stands as it was -/
structure DSt (kept : List Tm) (p : Tm → Bool) (cap : Nat) (cur : Array Value) (i j : Nat) : Prop where
  size : cur.size = cap * 3
  lt : i < j
  len : ((kept.take j).filter fun c => !p c).length = i
  front : ∀ q c, ((kept.take j).filter fun c => !p c)[q]? = some c → CellsC cur q c
  back : ∀ q c, j ≤ q → kept[q]? = some c → CellsC cur q c
theorem filter_all_take {kept : List Tm} {p : Tm → Bool} {k : Nat} (h : ∀ j c, j < k → kept[j]? = some c → p c = false) : ((kept.take k).filter fun c => !p c) = kept.take k := by
  refine List.filter_eq_self.2 fun c hc => ?_
  obtain ⟨j, hj⟩ := List.getElem?_of_mem hc
  have hlt := (List.getElem?_eq_some_iff.1 hj).1
  rw [List.length_take] at hlt
  rw [List.getElem?_take] at hj
  rw [if_pos (by omega)] at hj
  simp [h j c (by omega) hj]
theorem take_succ_filter {kept : List Tm} {p : Tm → Bool} {j : Nat} {c : Tm} (hj : kept[j]? = some c) : ((kept.take (j + 1)).filter fun c => !p c) = ((kept.take j).filter fun c => !p c) ++ if p c = true then [] else [c] := by
  rw [List.take_add_one, hj, List.filter_append]
  cases h : p c <;> simp [h]
theorem DSt.start {kept : List Tm} {p : Tm → Bool} {cap : Nat} {cur : Array Value} {k : Nat} {x : Tm} (hs : cur.size = cap * 3) (hc : ∀ q c, kept[q]? = some c → CellsC cur q c) (hx : kept[k]? = some x) (hp : p x = true) (h : ∀ j c, j < k → kept[j]? = some c → p c = false) : DSt kept p cap cur k (k + 1) := by
  have hlt := (List.getElem?_eq_some_iff.1 hx).1
  have hf : ((kept.take (k + 1)).filter fun c => !p c) = kept.take k := by rw [take_succ_filter hx, filter_all_take h, if_pos hp, List.append_nil]
  refine ⟨hs, by omega, by rw [hf, List.length_take]; omega, fun q c hq => ?_, fun q c _ hq => hc q c hq⟩
  rw [hf, List.getElem?_take] at hq
  split at hq
  · exact hc q c hq
  · cases hq
theorem DSt.skip {kept : List Tm} {p : Tm → Bool} {cap i j : Nat} {cur : Array Value} {x : Tm} (h : DSt kept p cap cur i j) (hx : kept[j]? = some x) (hp : p x = true) : DSt kept p cap cur i (j + 1) := by
  have hf : ((kept.take (j + 1)).filter fun c => !p c) = ((kept.take j).filter fun c => !p c) := by rw [take_succ_filter hx, if_pos hp, List.append_nil]
  exact ⟨h.size, by have := h.lt; omega, by rw [hf]; exact h.len, fun q c hq => h.front q c (by rwa [hf] at hq), fun q c hle hq => h.back q c (by omega) hq⟩
abbrev put3 (cur : Array Value) (i : Nat) (x : Tm) : Array Value := ((cur.setIfInBounds (i * 3) (.int .i64 x.id)).setIfInBounds (i * 3 + 1) (.int .i64 x.tick)).setIfInBounds (i * 3 + 2) (.int .i64 x.wh)
theorem put3_other {cur : Array Value} {i q : Nat} {x c : Tm} (h : CellsC cur q c) (hne : q ≠ i) : CellsC (put3 cur i x) q c := by
  obtain ⟨h0, h1, h2⟩ := h
  refine ⟨?_, ?_, ?_⟩
  all_goals rw [Array.getElem?_setIfInBounds_ne (by omega), Array.getElem?_setIfInBounds_ne (by omega), Array.getElem?_setIfInBounds_ne (by omega)]; assumption
theorem put3_here {cur : Array Value} {i : Nat} {x : Tm} (h : i * 3 + 2 < cur.size) : CellsC (put3 cur i x) i x := by
  refine ⟨?_, ?_, ?_⟩
  · rw [Array.getElem?_setIfInBounds_ne (by omega), Array.getElem?_setIfInBounds_ne (by omega), Array.getElem?_setIfInBounds_self_of_lt (by omega)]
  · rw [Array.getElem?_setIfInBounds_ne (by omega), Array.getElem?_setIfInBounds_self_of_lt (by simp; omega)]
  · rw [Array.getElem?_setIfInBounds_self_of_lt (by simp; omega)]
theorem DSt.keep {kept : List Tm} {p : Tm → Bool} {cap i j : Nat} {cur : Array Value} {x : Tm} (h : DSt kept p cap cur i j) (hx : kept[j]? = some x) (hp : p x = false) (hc : kept.length ≤ cap) : DSt kept p cap (put3 cur i x) (i + 1) (j + 1) := by
  have hlt := (List.getElem?_eq_some_iff.1 hx).1
  have hij := h.lt
  have hf : ((kept.take (j + 1)).filter fun c => !p c) = ((kept.take j).filter fun c => !p c) ++ [x] := by rw [take_succ_filter hx, if_neg (by rw [hp]; simp)]
  refine ⟨by simp [h.size], by omega, by rw [hf, List.length_append, h.len]; rfl, fun q c hq => ?_, fun q c hle hq => put3_other (h.back q c (by omega) hq) (by omega)⟩
  rw [hf] at hq
  by_cases hqi : q < i
  · rw [List.getElem?_append_left (by rw [h.len]; exact hqi)] at hq
    exact put3_other (h.front q c hq) (by omega)
  · have hql := (List.getElem?_eq_some_iff.1 hq).1
    rw [List.length_append, h.len] at hql
    simp at hql
    obtain rfl : q = i := by omega
    rw [List.getElem?_append_right (by rw [h.len]; omega), h.len, Nat.sub_self] at hq
    simp at hq
    subst hq
    exact put3_here (by rw [h.size]; omega)
/-- the row again -/
theorem own_of_cells {w : World} {B g cap : Nat} {cur : Array Value} {K : List Tm} (hB : B ≤ g) (hg : Blk w g 30 cur) (hK : K.length ≤ cap) (hcap : cap ≤ maxLen) (hs : cur.size = cap * 3) (hc : ∀ q c, K[q]? = some c → CellsC cur q c) :
    w.ownsRow B 30 3 (.slice (some ⟨g, 0, none⟩) K.length cap) K.length (rowT K) := by
  have hl : (rowT K).length = K.length * 3 := flatMap_len (cells := encT) (n := 3) (fun _ => rfl) K
  refine ⟨hl, .inr ⟨g, cap, cur, rfl, hB, hg, hK, hcap, hs, ?_⟩⟩
  apply List.ext_getElem?
  intro t
  rw [List.getElem?_take]
  by_cases ht : t < K.length * 3
  · rw [if_pos ht]
    have hu := List.getElem?_eq_getElem (show t < (rowT K).length by omega)
    obtain ⟨q, j, c, rfl, hq, hj⟩ := cells_inv (cells := encT) (n := 3) (fun _ => rfl) K t _ hu
    obtain ⟨c0, c1, c2⟩ := hc q c hq
    have hall : ∀ m, m < 3 → cur[q * 3 + m]? = (encT c)[m]? := fun m hm => by
      match m, hm with
      | 0, _ => exact c0
      | 1, _ => exact c1
      | 2, _ => exact c2
    have := hall j (List.getElem?_eq_some_iff.1 hj).1
    rw [hu, ← hj, ← this]
    simp
  · rw [if_neg ht, List.getElem?_eq_none (by omega)]
theorem cells_of_own {w : World} {B g n cap : Nat} {K : List Tm} (h : w.ownsRow B 30 3 (.slice (some ⟨g, 0, none⟩) n cap) K.length (rowT K)) :
    ∃ cur, B ≤ g ∧ n = K.length ∧ Blk w g 30 cur ∧ K.length ≤ cap ∧ cap ≤ maxLen ∧ cur.size = cap * 3 ∧ ∀ q c, K[q]? = some c → CellsC cur q c := by
  rcases h.2 with ⟨h0, _⟩ | ⟨g', cap', cur, h1, hB, hg, hc, hm, hs, ht⟩
  · cases h0
  · injection h1 with e1 e2 e3
    injection e1 with e1
    injection e1 with e4
    subst e4; subst e3
    have hcell : ∀ q c j u, K[q]? = some c → (encT c)[j]? = some u → cur[q * 3 + j]? = some u := fun q c j u hq hu => by
      have hj := (List.getElem?_eq_some_iff.1 hu).1
      have hj3 : j < 3 := hj
      have hql := (List.getElem?_eq_some_iff.1 hq).1
      have := cells_flat (cells := encT) (n := 3) (fun _ => rfl) K q c j u hq hu
      rw [show K.flatMap encT = rowT K from rfl, ← ht, List.getElem?_take, if_pos (by omega)] at this
      rw [← this]
      simp
    exact ⟨cur, hB, e2, hg, hc, hm, hs, fun q c hq => ⟨hcell q c 0 _ hq rfl, hcell q c 1 _ hq rfl, hcell q c 2 _ hq rfl⟩⟩
theorem zero30 (w : World) : (zeroValue 30).run Try.prog w = .ok (.agg #[.int .i64 0, .int .i64 0, .int .i64 0]) w := by kernel_rfl
set_option maxHeartbeats 4000000 in
set_option maxRecDepth 100000 in
theorem delete_any (g cap h B : Nat) (kept : List Tm) (one : Int) (w : World) (hr : w.ownsRow B 30 3 (.slice (some ⟨g, 0, none⟩) kept.length cap) kept.length (rowT kept)) (hh : Blk w h 3 #[.int .i64 one]) (hne : h ≠ g) (hl : kept.length ≤ 1000)
     :
    Calls Try.prog 14 #[.slice (some ⟨g, 0, none⟩) kept.length cap, .func (.func 15) #[] #[.pointer (some ⟨h, 0, none⟩)]] w fun e w' => w.grownBy w' (some g) ∧ e = .returned (.slice (some ⟨g, 0, none⟩) (kept.filter fun c => !decide (c.id = one)).length cap) ∧
      w'.ownsRow B 30 3 (.slice (some ⟨g, 0, none⟩) (kept.filter fun c => !decide (c.id = one)).length cap) (kept.filter fun c => !decide (c.id = one)).length (rowT (kept.filter fun c => !decide (c.id = one))) := by
  obtain ⟨cur, hB, _, hg, hcap, hmax, hs, hc⟩ := cells_of_own hr
  have HCL := Lib.hid (fun (W : World) (x : Tm) (hx : x ∈ kept) (hW : Blk W h 3 #[.int .i64 one]) => among_any x one h W hW )
  have HI := Lib.hid (indexC_any 15 #[.pointer (some ⟨h, 0, none⟩)] (fun c => decide (c.id = one)) _ kept w enters15 (fun W x hx hb => among_any x one h W (hh.below hb hh.lt) ) (tms_of_own hr) hl)
  have eg := enters15
  unfold Enters at eg
  obtain ⟨p, hp⟩ : ∃ p : Tm → Bool, p = fun c => decide (c.id = one) := ⟨_, rfl⟩
  have HP : Hid (∀ c, decide (c.id = one) = p c) := Lib.hid fun c => by rw [hp]
  have hK : (kept.filter fun c => !decide (c.id = one)) = kept.filter fun c => !p c := by rw [hp]
  rw [hK]
  rw [← hp] at HI
  have HR := Lib.hid hr
  have HH := Lib.hid hh
  have HG := Lib.hid hg
  have HC := Lib.hid hc
  have HS := Lib.hid hs
  clear hr hh hg hc hs hK hp
  go_enter Try.func14, Try.ntmps14
  go_wp2_with fail
  refine HI.out.mono ?_
  rintro e w1 ⟨hb1, r, rfl, hr⟩
  have HGR1 := Lib.hid (only_of_below hb1 (some g))
  have HB1 := Lib.hid hb1
  clear hb1
  rcases hr with ⟨rfl, hr⟩ | ⟨k, rfl, hk, hx, hb⟩
  · have HKF : Hid ((kept.filter fun c => !p c) = kept) := Lib.hid (List.filter_eq_self.2 fun c hc => by
      rw [List.any_eq_false] at hr
      simpa using hr c hc)
    clear hr
    go_wp2_with fail
    go_ret
    rw [HKF.out]
    exact ⟨HGR1.out, rfl, own_below HR.out HB1.out⟩
  · have hkb : ((k : Int) == -1) = false := beq_false_of_ne (by omega)
    have HD := Lib.hid (DSt.start (p := p) HS.out HC.out (List.getElem?_eq_getElem hk) (hx _ (List.getElem?_eq_getElem hk)) hb)
    have HG1 := Lib.hid (HG.out.below HB1.out HG.out.lt)
    have HH1 := Lib.hid (HH.out.below HB1.out HH.out.lt)
    clear hx hb
    go_wp2_with fail
    go_loopw [5, 6] (fun iv jv wr => ∃ (i j : Nat) (cur : Array Value), j ≤ kept.length ∧ i < j ∧ iv = .int .i64 (i : Int) ∧ jv = .int .i64 (j : Int) ∧ Hid (DSt kept p cap cur i j) ∧ Hid (Blk wr g 30 cur) ∧ Hid (w.grownBy wr (some g)) ∧ Hid (Blk wr h 3 #[.int .i64 one])) (fun _ jv _ => kept.length - (intOf jv).toNat)
    case atStart => exact ⟨k, k + 1, cur, by omega, by omega, rfl, by go_num, HD, HG1, HGR1, HH1⟩
    case round =>
      clear HD HG1 HH1 HGR1 HG HH HS HC HI hkb
      obtain ⟨i, j, cur, hj, hij, rfl, rfl, HD, HG, HGR, HH⟩ := hrel
      obtain ⟨wo, rfl⟩ : ∃ wo : World, wo = wr := ⟨_, rfl⟩
      by_cases hlt : j < kept.length
      · have hx := List.getElem?_eq_getElem hlt
        obtain ⟨e0, e1, e2⟩ := HD.out.back j _ (Nat.le_refl _) hx
        have d0 := (HG.out.cell (j * 3)).trans e0
        have d1 := (HG.out.cell (j * 3 + 1)).trans e1
        have d2 := (HG.out.cell (j * 3 + 2)).trans e2
        have hcall := HCL.out (wo.alloc (.cells (tmArr kept[j]) 30)) kept[j] (List.getElem_mem hlt) (HH.out.alloc _)
        rw [HP.out] at hcall
        generalize kept[j] = x at *
        have HX := Lib.hid hx
        have HCALL := Lib.hid hcall
        have HXB := Lib.hid (Blk.new wo 30 (tmArr x))
        have HGA := Lib.hid (HG.out.alloc (.cells (tmArr x) 30))
        have HHA := Lib.hid (HH.out.alloc (.cells (tmArr x) 30))
        have HGRA := Lib.hid (grown_trans HGR.out (World.grownBy_alloc wo (.cells (tmArr x) 30) (some g)))
        cases hq : p x with
        | true =>
          have HD2 := Lib.hid (HD.out.skip hx hq)
          rw [hq] at HCALL
          obtain ⟨num, src, left⟩ := x
          simp only at d0 d1 d2 HCALL HXB HGA HHA HGRA
          clear hx hcall hq e0 e1 e2
          go_wp2_with fail
          refine HCALL.out.mono ?_
          rintro e w2 ⟨rfl, hb2⟩
          have HG2 := Lib.hid (HGA.out.below hb2 HGA.out.lt)
          have HH2 := Lib.hid (HHA.out.below hb2 HHA.out.lt)
          have HGR2 := Lib.hid (grown_trans HGRA.out (only_of_below hb2 (some g)))
          clear hb2
          go_wp2_with fail
          go_roundw
          case rel => exact ⟨i, j + 1, cur, by omega, by omega, rfl, by go_num, HD2, HG2, HGR2, HH2⟩
          case measure => simp [intOf]; omega
        | false =>
          have HD2 := Lib.hid (HD.out.keep hx hq hcap)
          have hcs := HD.out.size
          rw [hq] at HCALL
          obtain ⟨num, src, left⟩ := x
          simp only at d0 d1 d2 HCALL HXB HGA HHA HGRA
          clear hx hcall hq e0 e1 e2
          go_wp2_with fail
          refine HCALL.out.mono ?_
          rintro e w2 ⟨rfl, hb2⟩
          obtain ⟨⟨x0, x1, x2⟩, -⟩ := (HXB.out.below hb2 HXB.out.lt).facts3
          have HG2 := Lib.hid (HGA.out.below hb2 HGA.out.lt)
          have HH2 := Lib.hid (HHA.out.below hb2 HHA.out.lt)
          have HGR2 := Lib.hid (grown_trans HGRA.out (only_of_below hb2 (some g)))
          have HGS := Lib.hid (((HG2.out.set_ (i * 3) (.int .i64 num)).set_ (i * 3 + 1) (.int .i64 src)).set_ (i * 3 + 2) (.int .i64 left))
          have HHS := Lib.hid (((HH2.out.kept (grown_set w2 g (i * 3) (.int .i64 num)) (fun h => hne (Option.some.inj h))).kept (grown_set _ g (i * 3 + 1) (.int .i64 src)) (fun h => hne (Option.some.inj h))).kept (grown_set _ g (i * 3 + 2) (.int .i64 left)) (fun h => hne (Option.some.inj h)))
          have HGRS := Lib.hid (grown_trans (grown_trans (grown_trans HGR2.out (grown_set w2 g (i * 3) (.int .i64 num))) (grown_set _ g (i * 3 + 1) (.int .i64 src))) (grown_set _ g (i * 3 + 2) (.int .i64 left)))
          have o0 := (HG2.out.cell (i * 3)).trans (Array.getElem?_eq_getElem (show i * 3 < cur.size by omega))
          have o1 := (HG2.out.cell (i * 3 + 1)).trans (Array.getElem?_eq_getElem (show i * 3 + 1 < cur.size by omega))
          have o2 := (HG2.out.cell (i * 3 + 2)).trans (Array.getElem?_eq_getElem (show i * 3 + 2 < cur.size by omega))
          have z0 := HG2.out.frozen (i * 3)
          have z1 := HG2.out.frozen (i * 3 + 1)
          have z2 := HG2.out.frozen (i * 3 + 2)
          generalize cur[i * 3]'(by omega) = v0 at o0
          generalize cur[i * 3 + 1]'(by omega) = v1 at o1
          generalize cur[i * 3 + 2]'(by omega) = v2 at o2
          clear hb2 d0 d1 d2 hcs
          go_wp2_with fail
          go_roundw
          case rel => exact ⟨i + 1, j + 1, _, by omega, by omega, by go_num, by go_num, HD2, HGS, HGRS, HHS⟩
          case measure => simp [intOf]; omega
      · obtain rfl : j = kept.length := by omega
        have hcs := HD.out.size
        have hlen := HD.out.len
        rw [List.take_length] at hlen
        have HFR : Hid (∀ q c, (kept.filter fun c => !p c)[q]? = some c → CellsC cur q c) := Lib.hid fun q c hq => HD.out.front q c (by rw [List.take_length]; exact hq)
        have hcl : ∀ ty, (Builtin.clear_ #[26] ty #[.slice (some ⟨g, i * 3, none⟩) (kept.length - i) (cap - i)]).run Try.prog wo = .ok (.tuple #[]) (wo.setCells g (i * 3) (Builtin.zeroCells (Value.agg #[.int .i64 0, .int .i64 0, .int .i64 0]).cells (kept.length - i)).toList) :=
          fun ty => run_clear_rows wo 26 30 ty _ 3 Try.underlying26 zero30 rfl (by decide) (fun v hv => by simp [Value.cells] at hv; rcases hv with rfl | rfl | rfl <;> rfl) g (i * 3) _ _ (by omega)
            (fun q hq => by rw [HG.out.cell, Array.getElem?_eq_getElem (show i * 3 + q < cur.size by omega)]; rfl) (fun q hq => HG.out.frozen _)
        obtain ⟨cur', h1, h2, h3, h4⟩ := setCells_blk (Builtin.zeroCells (Value.agg #[.int .i64 0, .int .i64 0, .int .i64 0]).cells (kept.length - i)).toList (i * 3) wo cur HG.out
        have HF := Lib.hid (own_of_cells (K := kept.filter fun c => !p c) hB h1 (by omega) hmax (by rw [h2, hcs]) (fun q c hq => by
          have hql := (List.getElem?_eq_some_iff.1 hq).1
          obtain ⟨e0, e1, e2⟩ := HFR.out q c hq
          exact ⟨(h3 _ (by omega)).trans e0, (h3 _ (by omega)).trans e1, (h3 _ (by omega)).trans e2⟩))
        have HGF := Lib.hid (grown_trans HGR.out h4)
        generalize wo.setCells g (i * 3) (Builtin.zeroCells (Value.agg #[.int .i64 0, .int .i64 0, .int .i64 0]).cells (kept.length - i)).toList = wz at *
        have HLEN := Lib.hid hlen
        clear h1 h2 h3 h4 hcs hlen
        go_wp2_with fail
        go_ret
        exact ⟨HGF.out, by rw [HLEN.out] <;> rfl, HF.out⟩
/-- slices.DeleteFunc over a row of the call's own, or over none -/
theorem deleteRow_any (v : Value) (h B : Nat) (kept : List Tm) (one : Int) (w : World) (hr : w.ownsRow B 30 3 v kept.length (rowT kept)) (hh : Blk w h 3 #[.int .i64 one]) (hne : ∀ g, v.ownBlock = some g → h ≠ g) (hl : kept.length ≤ 1000)
     :
    Calls Try.prog 14 #[v, .func (.func 15) #[] #[.pointer (some ⟨h, 0, none⟩)]] w fun e w' => w.grownBy w' v.ownBlock ∧ ∃ v', e = .returned v' ∧ v'.ownBlock = v.ownBlock ∧
      w'.ownsRow B 30 3 v' (kept.filter fun c => !decide (c.id = one)).length (rowT (kept.filter fun c => !decide (c.id = one))) := by
  rcases hr.2 with ⟨rfl, hn⟩ | ⟨g, cap, cur, rfl, _⟩
  · obtain rfl : kept = [] := List.eq_nil_of_length_eq_zero hn
    have HI := Lib.hid (indexC_any 15 #[.pointer (some ⟨h, 0, none⟩)] (fun c => decide (c.id = one)) (.slice none 0 0) [] w enters15 (fun W x hx hb => by cases hx) (tms_of_own hr) (by simp))
    clear hr hh hne hl hn
    go_enter Try.func14, Try.ntmps14
    go_wp2_with fail
    refine HI.out.mono ?_
    rintro e w1 ⟨hb1, r, rfl, hr⟩
    have HB1 := Lib.hid hb1
    clear hb1
    rcases hr with ⟨rfl, hr⟩ | ⟨k, rfl, hk, _⟩
    · clear hr
      go_wp2_with fail
      go_ret
      exact ⟨only_of_below HB1.out _, _, rfl, rfl, World.ownsRow_nil _ _ _ _⟩
    · simp at hk
  · refine (delete_any g cap h B kept one w hr hh (hne g rfl) hl).mono ?_
    rintro e w' ⟨h1, rfl, h2⟩
    exact ⟨h1, _, rfl, rfl, h2⟩
theorem rowT_snoc (K : List Tm) (x : Tm) : rowT (K ++ [x]) = rowT K ++ encT x := by simp [rowT]
theorem tm_one (x : Tm) : ∀ u ∈ encT x, u.oneCell' = true := by
  intro u hu
  simp only [encT, List.mem_cons, List.mem_nil_iff, or_false] at hu
  rcases hu with rfl | rfl | rfl <;> rfl
theorem tm_at {w : World} {g : Nat} {x : Tm} (h : Blk w g 30 (tmArr x)) : ∀ j u, (encT x)[j]? = some u → w.cell? ((⟨g, 0, none⟩ : Addr).add j) = some u := by
  intro j u hj
  rw [flat_add, Nat.zero_add, h.cell, ← hj]
  match j with
  | 0 => rfl
  | 1 => rfl
  | 2 => rfl
  | j + 3 => simp [encT]
end Go.Proofs.Ytlfiijlfokckkaa
