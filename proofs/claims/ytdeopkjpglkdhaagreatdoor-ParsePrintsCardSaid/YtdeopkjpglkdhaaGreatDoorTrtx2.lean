/- The contract of the document's Text (spinetref03.Text) at tokens that take one or two; the whole, by induction on the place. -/
import Derived.Test.YtdeopkjpglkdhaaGreatDoorTrtext
namespace Go.Proofs.YtdeopkjpglkdhaaGreatDoor
open Go.ChangeShapes Go.WideShapes Go.ChangeAt Go.RowKit
set_option linter.unusedVariables false

theorem data_bytes' (l : List UInt8) : (bytes l).data.toList = l := rfl
theorem rx_mk {x : El} {n : Nat} {w w' : World} {s : ByteArray} {f : Int} {b : Bool} (hb : Below w.heap.size w w') (hs : s.size ≤ 300 * n) (hx : b = x.ok) (h : x.ok = true → s = bytes x.s ∧ f = x.f) : RxPost x n w (.returned (.tuple #[.string s, .int .i64 f, .bool b])) w' :=
  ⟨hb, s, f, by rw [hx], h, hs⟩
set_option maxHeartbeats 4000000 in
set_option maxRecDepth 100000 in
theorem rtext_un (ts : List Tk) (A : Option Addr) (cap k : Nat) (t : Tk) (x : El) (S : List El) (z : Int) (w : World) (hk : k < ts.length) (hk1 : 1 ≤ k) (hl : ts.length ≤ 100) (ht : ts[k]? = some t) (hv : ToksAt w (.slice A ts.length cap) ts) (hc : tak t = 1) (hz : z = (k : Int))
    (HIH : ∀ w' y, Below w.heap.size w w' → y = ((k - 1 : Nat) : Int) → Calls Tryz.prog 13 #[.slice A ts.length cap, .int .i64 y] w' (RxPost x k w')) :
    Calls Tryz.prog 13 #[.slice A ts.length cap, .int .i64 z] w (RxPost ⟨unS t x.s, x.f, x.ok && decide ((unS t x.s).length ≤ 200)⟩ (k + 1) w) := by
  subst hz
  obtain ⟨b, o, rfl, hlt, c0, c1, c2, hcc⟩ := tok_at hv ht
  have HC := Lib.hid hc
  have HIH' := Lib.hid HIH
  have HB1 := Lib.hid ((Below.refl w.heap.size w).alloc (Nat.le_refl _) (.cells #[.int .i64 t.1, .int .i64 t.2.1, .int .i64 t.2.2] 40))
  have hk2 : (k : Int) < (ts.length : Int) := by omega
  have htt := tak_one hc
  clear hc hv ht HIH
  rcases htt with rfl | rfl
  · have HUN := Lib.hid un_not
    go_enter Tryz.func13, Tryz.ntmps13
    go_wp2_with fail
    refine (rtakes_any (14, 0, 0) _).mono ?_
    rintro e w1 ⟨rfl, hb1⟩
    rw [HC.out]
    have HX1 := Lib.hid (HB1.out.trans (hb1.mono (by simp)))
    obtain ⟨⟨a0, a1, a2⟩, _⟩ := ((Blk.new w 40 #[.int .i64 14, .int .i64 0, .int .i64 0]).below hb1 (by simp)).facts3
    have hwz : w.heap.size < w1.heap.size := by have := hb1.size; simp at this; omega
    clear hb1
    go_wp2_with fail
    refine (HIH'.out w1 _ HX1.out (by omega)).mono ?_
    rintro e w2 ⟨hb2, s, f, rfl, hxs, hsz⟩
    have HX2 := Lib.hid (HX1.out.trans (hb2.mono HX1.out.size))
    have a0' := (hb2.cell (p := ⟨w.heap.size, 0, none⟩) hwz).trans a0
    have HXS := Lib.hid hxs
    clear hb2 hxs
    cases hok : x.ok with
    | false =>
      have HOK := Lib.hid hok
      clear hok
      go_wp2_with fail
      refine bodyPost_ret (v := .tuple #[.string (⟨#[40, 110, 111, 116, 32]⟩ ++ s ++ ⟨#[41]⟩), .int .i64 f, .bool false]) (by simp [results, Tryz.results13, go_sem]) rfl ?_
      exact rx_mk HX2.out (by rw [ByteArray.size_append, ByteArray.size_append]; have : (⟨#[40, 110, 111, 116, 32]⟩ : ByteArray).size = 5 := rfl; have : (⟨#[41]⟩ : ByteArray).size = 1 := rfl; omega) (by simp [HOK.out]) (by simp [HOK.out])
    | true =>
      obtain ⟨hs1, hf1⟩ := HXS.out hok
      subst hs1
      subst hf1
      have hu := HUN.out (bytes x.s)
      rw [data_bytes'] at hu
      have HU := Lib.hid hu
      have HOK := Lib.hid hok
      clear hu hok
      by_cases hlen : (unS (14, 0, 0) x.s).length ≤ 200
      · have hz1 : 5 + (bytes x.s).size + 1 ≤ 200 := by rw [← HU.out.2]; exact hlen
        have HLEN := Lib.hid hlen
        clear hlen
        generalize bytes x.s = X at *
        go_wp2_with fail
        refine bodyPost_ret (v := .tuple #[.string (⟨#[40, 110, 111, 116, 32]⟩ ++ X ++ ⟨#[41]⟩), .int .i64 x.f, .bool true]) (by simp [results, Tryz.results13, go_sem]; omega) rfl ?_
        exact rx_mk HX2.out (by rw [ByteArray.size_append, ByteArray.size_append]; have : (⟨#[40, 110, 111, 116, 32]⟩ : ByteArray).size = 5 := rfl; have : (⟨#[41]⟩ : ByteArray).size = 1 := rfl; omega) (by simp [HOK.out, HLEN.out]) (fun _ => ⟨HU.out.1, rfl⟩)
      · have hz1 : ¬ 5 + (bytes x.s).size + 1 ≤ 200 := by rw [← HU.out.2]; exact hlen
        have HLEN := Lib.hid hlen
        clear hlen
        generalize bytes x.s = X at *
        go_wp2_with fail
        refine bodyPost_ret (v := .tuple #[.string (⟨#[40, 110, 111, 116, 32]⟩ ++ X ++ ⟨#[41]⟩), .int .i64 x.f, .bool false]) (by simp [results, Tryz.results13, go_sem]; omega) rfl ?_
        exact rx_mk HX2.out (by rw [ByteArray.size_append, ByteArray.size_append]; have : (⟨#[40, 110, 111, 116, 32]⟩ : ByteArray).size = 5 := rfl; have : (⟨#[41]⟩ : ByteArray).size = 1 := rfl; omega) (by simp; intro; have := HLEN.out; omega) (fun h => absurd h (by simp; intro; have := HLEN.out; omega))
  · have HUN := Lib.hid un_neg
    go_enter Tryz.func13, Tryz.ntmps13
    go_wp2_with fail
    refine (rtakes_any (19, 0, 0) _).mono ?_
    rintro e w1 ⟨rfl, hb1⟩
    rw [HC.out]
    have HX1 := Lib.hid (HB1.out.trans (hb1.mono (by simp)))
    obtain ⟨⟨a0, a1, a2⟩, _⟩ := ((Blk.new w 40 #[.int .i64 19, .int .i64 0, .int .i64 0]).below hb1 (by simp)).facts3
    have hwz : w.heap.size < w1.heap.size := by have := hb1.size; simp at this; omega
    clear hb1
    go_wp2_with fail
    refine (HIH'.out w1 _ HX1.out (by omega)).mono ?_
    rintro e w2 ⟨hb2, s, f, rfl, hxs, hsz⟩
    have HX2 := Lib.hid (HX1.out.trans (hb2.mono HX1.out.size))
    have a0' := (hb2.cell (p := ⟨w.heap.size, 0, none⟩) hwz).trans a0
    have HXS := Lib.hid hxs
    clear hb2 hxs
    cases hok : x.ok with
    | false =>
      have HOK := Lib.hid hok
      clear hok
      go_wp2_with fail
      refine bodyPost_ret (v := .tuple #[.string (⟨#[40, 45]⟩ ++ s ++ ⟨#[41]⟩), .int .i64 f, .bool false]) (by simp [results, Tryz.results13, go_sem]) rfl ?_
      exact rx_mk HX2.out (by rw [ByteArray.size_append, ByteArray.size_append]; have : (⟨#[40, 45]⟩ : ByteArray).size = 2 := rfl; have : (⟨#[41]⟩ : ByteArray).size = 1 := rfl; omega) (by simp [HOK.out]) (by simp [HOK.out])
    | true =>
      obtain ⟨hs1, hf1⟩ := HXS.out hok
      subst hs1
      subst hf1
      have hu := HUN.out (bytes x.s)
      rw [data_bytes'] at hu
      have HU := Lib.hid hu
      have HOK := Lib.hid hok
      clear hu hok
      by_cases hlen : (unS (19, 0, 0) x.s).length ≤ 200
      · have hz1 : 2 + (bytes x.s).size + 1 ≤ 200 := by rw [← HU.out.2]; exact hlen
        have HLEN := Lib.hid hlen
        clear hlen
        generalize bytes x.s = X at *
        go_wp2_with fail
        refine bodyPost_ret (v := .tuple #[.string (⟨#[40, 45]⟩ ++ X ++ ⟨#[41]⟩), .int .i64 x.f, .bool true]) (by simp [results, Tryz.results13, go_sem]; omega) rfl ?_
        exact rx_mk HX2.out (by rw [ByteArray.size_append, ByteArray.size_append]; have : (⟨#[40, 45]⟩ : ByteArray).size = 2 := rfl; have : (⟨#[41]⟩ : ByteArray).size = 1 := rfl; omega) (by simp [HOK.out, HLEN.out]) (fun _ => ⟨HU.out.1, rfl⟩)
      · have hz1 : ¬ 2 + (bytes x.s).size + 1 ≤ 200 := by rw [← HU.out.2]; exact hlen
        have HLEN := Lib.hid hlen
        clear hlen
        generalize bytes x.s = X at *
        go_wp2_with fail
        refine bodyPost_ret (v := .tuple #[.string (⟨#[40, 45]⟩ ++ X ++ ⟨#[41]⟩), .int .i64 x.f, .bool false]) (by simp [results, Tryz.results13, go_sem]; omega) rfl ?_
        exact rx_mk HX2.out (by rw [ByteArray.size_append, ByteArray.size_append]; have : (⟨#[40, 45]⟩ : ByteArray).size = 2 := rfl; have : (⟨#[41]⟩ : ByteArray).size = 1 := rfl; omega) (by simp; intro; have := HLEN.out; omega) (fun h => absurd h (by simp; intro; have := HLEN.out; omega))
end Go.Proofs.YtdeopkjpglkdhaaGreatDoor
