/- The contract of the document's Text (spinetref03.Text) at tokens that take two; the whole, by induction on the place. -/
import Derived.Test.YtdeopkjpglkdhaaGreatDoorTrtx2
namespace Go.Proofs.YtdeopkjpglkdhaaGreatDoor
open Go.ChangeShapes Go.WideShapes Go.ChangeAt Go.RowKit
set_option linter.unusedVariables false

theorem sgn_low (k : Int) (h3 : 3 ≤ k) (h : k ≤ 11) : bytes (signT k) = bytes (sgn (k, 0, 0)) := by
  rw [sgn_else k 0 0 (by omega) (by omega) (by omega) (by omega), textB_fix k 0 0 h3 (by omega)]
theorem sgn_high (k : Int) (h : k = 12 ∨ k = 13) : ⟨#[32]⟩ ++ bytes (signT k) ++ ⟨#[32]⟩ = bytes (sgn (k, 0, 0)) := by
  rcases h with rfl | rfl <;> rfl
theorem signT_len (k : Int) : (bytes (signT k)).size ≤ 20 := by
  rw [bytes_size]
  unfold signT
  split
  · have h : ∀ m : Fin 19, (texts.getD m.val []).length ≤ 20 := by decide
    rename_i hk
    exact h ⟨k.toNat, by omega⟩
  · simp
set_option maxHeartbeats 8000000 in
set_option maxRecDepth 100000 in
theorem rtext_low (ts : List Tk) (A : Option Addr) (cap k : Nat) (kd : Int) (a b : El) (z : Int) (w : World) (hk : k < ts.length) (hk1 : 1 ≤ k) (hl : ts.length ≤ 100) (ht : ts[k]? = some (kd, 0, 0)) (hv : ToksAt w (.slice A ts.length cap) ts) (hc : tak (kd, 0, 0) = 2) (h3 : 3 ≤ kd) (h11 : kd ≤ 11) (hz : z = (k : Int)) (hbf : b.f ≤ k) (hbf1 : 1 ≤ b.f) (hbs : b.ok = true → b.s.length ≤ 200)
    (HIH : ∀ w' y, Below w.heap.size w w' → y = ((k - 1 : Nat) : Int) → Calls Tryz.prog 13 #[.slice A ts.length cap, .int .i64 y] w' (RxPost b k w'))
    (HIH2 : ∀ w' y, Below w.heap.size w w' → y = ((b.f - 1 : Nat) : Int) → Calls Tryz.prog 13 #[.slice A ts.length cap, .int .i64 y] w' (RxPost a b.f w')) :
    Calls Tryz.prog 13 #[.slice A ts.length cap, .int .i64 z] w (RxPost ⟨binS (kd, 0, 0) a.s b.s, a.f, b.ok && (a.ok && decide ((binS (kd, 0, 0) a.s b.s).length ≤ 200))⟩ (k + 1) w) := by
  subst hz
  obtain ⟨b', o, rfl, hlt, c0, c1, c2, hcc⟩ := tok_at hv ht
  have HC := Lib.hid hc
  have HIH' := Lib.hid HIH
  have HIH2' := Lib.hid HIH2
  have HBS := Lib.hid hbs
  have HB1 := Lib.hid ((Below.refl w.heap.size w).alloc (Nat.le_refl _) (.cells #[.int .i64 kd, .int .i64 0, .int .i64 0] 40))
  have hk2 : (k : Int) < (ts.length : Int) := by omega
  have HSG := Lib.hid (fun W => signs_any kd W)
  have hsl := signT_len kd
  have HSX := Lib.hid (sgn_low kd h3 h11)
  have hd12 : decide (12 ≤ kd) = false := by simp; omega
  generalize bytes (signT kd) = G at *
  clear hc hv ht HIH HIH2 hbs
  go_enter Tryz.func13, Tryz.ntmps13
  go_wp2_with fail
  refine (rtakes_any (kd, 0, 0) _).mono ?_
  rintro e w1 ⟨rfl, hb1⟩
  rw [HC.out]
  have HX1 := Lib.hid (HB1.out.trans (hb1.mono (by simp)))
  obtain ⟨⟨a0, a1, a2⟩, _⟩ := ((Blk.new w 40 #[.int .i64 kd, .int .i64 0, .int .i64 0]).below hb1 (by simp)).facts3
  have hwz : w.heap.size < w1.heap.size := by have := hb1.size; simp at this; omega
  clear hb1
  go_wp2_with fail
  refine (HIH'.out w1 _ HX1.out (by omega)).mono ?_
  rintro e w2 ⟨hb2, sb, fb, rfl, hxs, hsz⟩
  have HX2 := Lib.hid (HX1.out.trans (hb2.mono HX1.out.size))
  have a0' := (hb2.cell (p := ⟨w.heap.size, 0, none⟩) hwz).trans a0
  have hwz2 : w.heap.size < w2.heap.size := Nat.lt_of_lt_of_le hwz hb2.size
  have HXS := Lib.hid hxs
  clear hb2 hxs
  cases hok : b.ok with
  | false =>
    have HOK := Lib.hid hok
    clear hok
    go_wp2_with fail
    refine bodyPost_ret (v := .tuple #[.string ⟨#[]⟩, .int .i64 0, .bool false]) (by simp [results, Tryz.results13, go_sem]) rfl ?_
    exact rx_mk HX2.out (Nat.zero_le _) (by simp [HOK.out]) (by simp [HOK.out])
  | true =>
    obtain ⟨hs1, hf1⟩ := HXS.out hok
    subst hs1
    subst hf1
    have HOK := Lib.hid hok
    have hb200 : (bytes b.s).size ≤ 200 := by rw [bytes_size]; exact HBS.out hok
    generalize hY : bytes b.s = Y at *
    have HYB := Lib.hid hY
    clear hok hY
    go_wp2_with fail
    refine (HIH2'.out w2 _ HX2.out (by omega)).mono ?_
    rintro e w3 ⟨hb3, sa, fa, rfl, hxa, hsa⟩
    have HX3 := Lib.hid (HX2.out.trans (hb3.mono HX2.out.size))
    have a0'' := (hb3.cell (p := ⟨w.heap.size, 0, none⟩) hwz2).trans a0'
    have HXA := Lib.hid hxa
    clear hb3 hxa
    cases hoa : a.ok with
    | false =>
      have HOA := Lib.hid hoa
      clear hoa
      go_wp2_with fail
      refine (HSG.out _).mono ?_
      rintro e w4 ⟨rfl, rfl⟩
      go_wp2_with fail
      refine bodyPost_ret (v := .tuple #[.string (⟨#[40]⟩ ++ sa ++ (G) ++ Y ++ ⟨#[41]⟩), .int .i64 fa, .bool false]) (by simp [results, Tryz.results13, go_sem]) rfl ?_
      exact rx_mk HX3.out (by simp only [ByteArray.size_append]; have : (⟨#[40]⟩ : ByteArray).size = 1 := rfl; have : (⟨#[41]⟩ : ByteArray).size = 1 := rfl; have : (⟨#[32]⟩ : ByteArray).size = 1 := rfl; omega) (by simp [HOA.out]) (by simp [HOA.out])
    | true =>
      obtain ⟨hs2, hf2⟩ := HXA.out hoa
      subst hs2
      subst hf2
      have HOA := Lib.hid hoa
      have hu := bin_bytes (kd, 0, 0) (G) (bytes a.s) (bytes b.s) HSX.out.symm
      rw [data_bytes', data_bytes', HYB.out] at hu
      have HU := Lib.hid hu
      clear hu hoa
      generalize bytes a.s = X at *
      by_cases hlen : (binS (kd, 0, 0) a.s b.s).length ≤ 200
      · have hz1 : 1 + X.size + (G).size + Y.size + 1 ≤ 200 := by rw [← HU.out.2]; exact hlen
        have HLEN := Lib.hid hlen
        clear hlen
        go_wp2_with fail
        refine (HSG.out _).mono ?_
        rintro e w4 ⟨rfl, rfl⟩
        go_wp2_with fail
        refine bodyPost_ret (v := .tuple #[.string (⟨#[40]⟩ ++ X ++ (G) ++ Y ++ ⟨#[41]⟩), .int .i64 a.f, .bool true]) (by simp [results, Tryz.results13, go_sem]; omega) rfl ?_
        exact rx_mk HX3.out (by simp only [ByteArray.size_append]; have : (⟨#[40]⟩ : ByteArray).size = 1 := rfl; have : (⟨#[41]⟩ : ByteArray).size = 1 := rfl; have : (⟨#[32]⟩ : ByteArray).size = 1 := rfl; omega) (by simp [HOK.out, HOA.out, HLEN.out]) (fun _ => ⟨HU.out.1, rfl⟩)
      · have hz1 : ¬ 1 + X.size + (G).size + Y.size + 1 ≤ 200 := by rw [← HU.out.2]; exact hlen
        have HLEN := Lib.hid hlen
        clear hlen
        go_wp2_with fail
        refine (HSG.out _).mono ?_
        rintro e w4 ⟨rfl, rfl⟩
        go_wp2_with fail
        refine bodyPost_ret (v := .tuple #[.string (⟨#[40]⟩ ++ X ++ (G) ++ Y ++ ⟨#[41]⟩), .int .i64 a.f, .bool false]) (by simp [results, Tryz.results13, go_sem]; omega) rfl ?_
        exact rx_mk HX3.out (by simp only [ByteArray.size_append]; have : (⟨#[40]⟩ : ByteArray).size = 1 := rfl; have : (⟨#[41]⟩ : ByteArray).size = 1 := rfl; have : (⟨#[32]⟩ : ByteArray).size = 1 := rfl; omega) (by simp [HOK.out, HOA.out]; have := HLEN.out; omega) (fun h => absurd h (by simp [HOK.out, HOA.out]; have := HLEN.out; omega))
set_option maxHeartbeats 8000000 in
set_option maxRecDepth 100000 in
theorem rtext_high (ts : List Tk) (A : Option Addr) (cap k : Nat) (kd : Int) (a b : El) (z : Int) (w : World) (hk : k < ts.length) (hk1 : 1 ≤ k) (hl : ts.length ≤ 100) (ht : ts[k]? = some (kd, 0, 0)) (hv : ToksAt w (.slice A ts.length cap) ts) (hc : tak (kd, 0, 0) = 2) (hkd : kd = 12 ∨ kd = 13) (hz : z = (k : Int)) (hbf : b.f ≤ k) (hbf1 : 1 ≤ b.f) (hbs : b.ok = true → b.s.length ≤ 200)
    (HIH : ∀ w' y, Below w.heap.size w w' → y = ((k - 1 : Nat) : Int) → Calls Tryz.prog 13 #[.slice A ts.length cap, .int .i64 y] w' (RxPost b k w'))
    (HIH2 : ∀ w' y, Below w.heap.size w w' → y = ((b.f - 1 : Nat) : Int) → Calls Tryz.prog 13 #[.slice A ts.length cap, .int .i64 y] w' (RxPost a b.f w')) :
    Calls Tryz.prog 13 #[.slice A ts.length cap, .int .i64 z] w (RxPost ⟨binS (kd, 0, 0) a.s b.s, a.f, b.ok && (a.ok && decide ((binS (kd, 0, 0) a.s b.s).length ≤ 200))⟩ (k + 1) w) := by
  subst hz
  obtain ⟨b', o, rfl, hlt, c0, c1, c2, hcc⟩ := tok_at hv ht
  have HC := Lib.hid hc
  have HIH' := Lib.hid HIH
  have HIH2' := Lib.hid HIH2
  have HBS := Lib.hid hbs
  have HB1 := Lib.hid ((Below.refl w.heap.size w).alloc (Nat.le_refl _) (.cells #[.int .i64 kd, .int .i64 0, .int .i64 0] 40))
  have hk2 : (k : Int) < (ts.length : Int) := by omega
  have HSG := Lib.hid (fun W => signs_any kd W)
  have hsl := signT_len kd
  have HSX := Lib.hid (sgn_high kd hkd)
  have hd12 : decide (12 ≤ kd) = true := by simp; omega
  have hd13 : 12 ≤ kd := by omega
  generalize bytes (signT kd) = G at *
  clear hc hv ht HIH HIH2 hbs
  go_enter Tryz.func13, Tryz.ntmps13
  go_wp2_with fail
  refine (rtakes_any (kd, 0, 0) _).mono ?_
  rintro e w1 ⟨rfl, hb1⟩
  rw [HC.out]
  have HX1 := Lib.hid (HB1.out.trans (hb1.mono (by simp)))
  obtain ⟨⟨a0, a1, a2⟩, _⟩ := ((Blk.new w 40 #[.int .i64 kd, .int .i64 0, .int .i64 0]).below hb1 (by simp)).facts3
  have hwz : w.heap.size < w1.heap.size := by have := hb1.size; simp at this; omega
  clear hb1
  go_wp2_with fail
  refine (HIH'.out w1 _ HX1.out (by omega)).mono ?_
  rintro e w2 ⟨hb2, sb, fb, rfl, hxs, hsz⟩
  have HX2 := Lib.hid (HX1.out.trans (hb2.mono HX1.out.size))
  have a0' := (hb2.cell (p := ⟨w.heap.size, 0, none⟩) hwz).trans a0
  have hwz2 : w.heap.size < w2.heap.size := Nat.lt_of_lt_of_le hwz hb2.size
  have HXS := Lib.hid hxs
  clear hb2 hxs
  cases hok : b.ok with
  | false =>
    have HOK := Lib.hid hok
    clear hok
    go_wp2_with fail
    refine bodyPost_ret (v := .tuple #[.string ⟨#[]⟩, .int .i64 0, .bool false]) (by simp [results, Tryz.results13, go_sem]) rfl ?_
    exact rx_mk HX2.out (Nat.zero_le _) (by simp [HOK.out]) (by simp [HOK.out])
  | true =>
    obtain ⟨hs1, hf1⟩ := HXS.out hok
    subst hs1
    subst hf1
    have HOK := Lib.hid hok
    have hb200 : (bytes b.s).size ≤ 200 := by rw [bytes_size]; exact HBS.out hok
    generalize hY : bytes b.s = Y at *
    have HYB := Lib.hid hY
    clear hok hY
    go_wp2_with fail
    refine (HIH2'.out w2 _ HX2.out (by omega)).mono ?_
    rintro e w3 ⟨hb3, sa, fa, rfl, hxa, hsa⟩
    have HX3 := Lib.hid (HX2.out.trans (hb3.mono HX2.out.size))
    have a0'' := (hb3.cell (p := ⟨w.heap.size, 0, none⟩) hwz2).trans a0'
    have HXA := Lib.hid hxa
    clear hb3 hxa
    cases hoa : a.ok with
    | false =>
      have HOA := Lib.hid hoa
      clear hoa
      go_wp2_with fail
      refine (HSG.out _).mono ?_
      rintro e w4 ⟨rfl, rfl⟩
      go_wp2_with fail
      refine bodyPost_ret (v := .tuple #[.string (⟨#[40]⟩ ++ sa ++ (⟨#[32]⟩ ++ G ++ ⟨#[32]⟩) ++ Y ++ ⟨#[41]⟩), .int .i64 fa, .bool false]) (by simp [results, Tryz.results13, go_sem]) rfl ?_
      exact rx_mk HX3.out (by simp only [ByteArray.size_append]; have : (⟨#[40]⟩ : ByteArray).size = 1 := rfl; have : (⟨#[41]⟩ : ByteArray).size = 1 := rfl; have : (⟨#[32]⟩ : ByteArray).size = 1 := rfl; omega) (by simp [HOA.out]) (by simp [HOA.out])
    | true =>
      obtain ⟨hs2, hf2⟩ := HXA.out hoa
      subst hs2
      subst hf2
      have HOA := Lib.hid hoa
      have hu := bin_bytes (kd, 0, 0) (⟨#[32]⟩ ++ G ++ ⟨#[32]⟩) (bytes a.s) (bytes b.s) HSX.out.symm
      rw [data_bytes', data_bytes', HYB.out] at hu
      have HU := Lib.hid hu
      clear hu hoa
      generalize bytes a.s = X at *
      by_cases hlen : (binS (kd, 0, 0) a.s b.s).length ≤ 200
      · have hz1 : 1 + X.size + (⟨#[32]⟩ ++ G ++ ⟨#[32]⟩).size + Y.size + 1 ≤ 200 := by rw [← HU.out.2]; exact hlen
        have HLEN := Lib.hid hlen
        have : (⟨#[32]⟩ : ByteArray).size = 1 := rfl
        simp only [ByteArray.size_append, this] at hz1
        clear this
        clear hlen
        go_wp2_with fail
        refine (HSG.out _).mono ?_
        rintro e w4 ⟨rfl, rfl⟩
        go_wp2_with fail
        refine bodyPost_ret (v := .tuple #[.string (⟨#[40]⟩ ++ X ++ (⟨#[32]⟩ ++ G ++ ⟨#[32]⟩) ++ Y ++ ⟨#[41]⟩), .int .i64 a.f, .bool true]) (by simp [results, Tryz.results13, go_sem]; omega) rfl ?_
        exact rx_mk HX3.out (by simp only [ByteArray.size_append]; have : (⟨#[40]⟩ : ByteArray).size = 1 := rfl; have : (⟨#[41]⟩ : ByteArray).size = 1 := rfl; have : (⟨#[32]⟩ : ByteArray).size = 1 := rfl; omega) (by simp [HOK.out, HOA.out, HLEN.out]) (fun _ => ⟨HU.out.1, rfl⟩)
      · have hz1 : ¬ 1 + X.size + (⟨#[32]⟩ ++ G ++ ⟨#[32]⟩).size + Y.size + 1 ≤ 200 := by rw [← HU.out.2]; exact hlen
        have HLEN := Lib.hid hlen
        have : (⟨#[32]⟩ : ByteArray).size = 1 := rfl
        simp only [ByteArray.size_append, this] at hz1
        clear this
        clear hlen
        go_wp2_with fail
        refine (HSG.out _).mono ?_
        rintro e w4 ⟨rfl, rfl⟩
        go_wp2_with fail
        refine bodyPost_ret (v := .tuple #[.string (⟨#[40]⟩ ++ X ++ (⟨#[32]⟩ ++ G ++ ⟨#[32]⟩) ++ Y ++ ⟨#[41]⟩), .int .i64 a.f, .bool false]) (by simp [results, Tryz.results13, go_sem]; omega) rfl ?_
        exact rx_mk HX3.out (by simp only [ByteArray.size_append]; have : (⟨#[40]⟩ : ByteArray).size = 1 := rfl; have : (⟨#[41]⟩ : ByteArray).size = 1 := rfl; have : (⟨#[32]⟩ : ByteArray).size = 1 := rfl; omega) (by simp [HOK.out, HOA.out]; have := HLEN.out; omega) (fun h => absurd h (by simp [HOK.out, HOA.out]; have := HLEN.out; omega))
theorem rtext_all (ts : List Tk) : ∀ n, RText ts n
  | 0 => fun A cap at_ x S z w h => by omega
  | n + 1 => fun A cap k x S z w hn hk hl hV hv hN hst hz => by
    have ih := rtext_all ts n
    have hg : ts[k]? = some ts[k] := List.getElem?_eq_getElem hk
    have hgd : ts.getD k (0, 0, 0) = ts[k] := by simp [List.getD, hg]
    obtain ⟨h0, h1⟩ := hV k (by omega)
    rw [stk_succ] at hst
    rw [hgd] at h0 h1 hst
    have hNk := hN ts[k] (List.getElem_mem hk)
    generalize ts[k] = t at *
    rcases tak_cases t with c | c | c | c
    · omega
    · rw [step0 _ c] at hst
      injection hst with hx hS
      subst hx
      obtain ⟨b, o, rfl, _⟩ := tok_at hv hg
      exact rtext_leaf ts b o cap k t z w hk hl hg hv hNk c hz
    · rcases hs : stk ts k with _ | ⟨y, S'⟩
      · rw [hs, c] at h1; simp at h1
      · rw [hs, step1 _ _ c] at hst
        injection hst with hx hS
        subst hx
        have hk1 : 1 ≤ k := by
          rcases Nat.eq_zero_or_pos k with rfl | h
          · cases hs
          · exact h
        refine rtext_un ts A cap k t y S' z w hk hk1 hl hg hv c hz (fun w' y' hb hy => ?_)
        have := ih A cap (k - 1) y S' y' w' (by omega) (by omega) hl (hV.mono (by omega)) (hv.below hb) hN (by rw [show k - 1 + 1 = k by omega]; exact hs) hy
        rw [show k - 1 + 1 = k by omega] at this
        exact this
    · rcases hs : stk ts k with _ | ⟨b, _ | ⟨a, S'⟩⟩
      · rw [hs, c] at h1; simp at h1
      · rw [hs, c] at h1; simp at h1
      · rw [hs, step2 _ _ _ c] at hst
        injection hst with hx hS
        subst hx
        have hu := stk_under ts k k (Nat.le_refl _) (hV.mono (by omega)) b (a :: S') hs
        have hk1 : 1 ≤ k := by
          rcases Nat.eq_zero_or_pos k with rfl | h
          · cases hs
          · exact h
        have hbf1 : 1 ≤ b.f := by
          rcases Nat.eq_zero_or_pos b.f with h | h
          · have h2 := hu.2; rw [h] at h2; cases h2
          · exact h
        have hbs : b.ok = true → b.s.length ≤ 200 := stk_short ts hN k (by omega) (hV.mono (by omega)) b (by rw [hs]; simp)
        have i1 : ∀ w' y', Below w.heap.size w w' → y' = ((k - 1 : Nat) : Int) → Calls Tryz.prog 13 #[.slice A ts.length cap, .int .i64 y'] w' (RxPost b k w') := fun w' y' hb hy => by
          have := ih A cap (k - 1) b (a :: S') y' w' (by omega) (by omega) hl (hV.mono (by omega)) (hv.below hb) hN (by rw [show k - 1 + 1 = k by omega]; exact hs) hy
          rw [show k - 1 + 1 = k by omega] at this
          exact this
        have i2 : ∀ w' y', Below w.heap.size w w' → y' = ((b.f - 1 : Nat) : Int) → Calls Tryz.prog 13 #[.slice A ts.length cap, .int .i64 y'] w' (RxPost a b.f w') := fun w' y' hb hy => by
          have := ih A cap (b.f - 1) a S' y' w' (by omega) (by omega) hl (hV.mono (by omega)) (hv.below hb) hN (by rw [show b.f - 1 + 1 = b.f by omega]; exact hu.2.symm) hy
          rw [show b.f - 1 + 1 = b.f by omega] at this
          exact this
        obtain ⟨kd, rfl, h3, h13⟩ := tak_two c
        by_cases h11 : kd ≤ 11
        · exact rtext_low ts A cap k kd a b z w hk hk1 hl hg hv c h3 h11 hz (by omega) hbf1 hbs i1 i2
        · exact rtext_high ts A cap k kd a b z w hk hk1 hl hg hv c (by omega) hz (by omega) hbf1 hbs i1 i2
end Go.Proofs.YtdeopkjpglkdhaaGreatDoor
