/- The contract of parse.join: the text of a token with the texts of what it takes. -/
import Derived.Test.YtdeopkjpglkdhaaGreatDoorTsign
namespace Go.Proofs.YtdeopkjpglkdhaaGreatDoor
open Go.ChangeShapes Go.WideShapes Go.ChangeAt Go.RowKit
set_option linter.unusedVariables false

def JPost (L : List UInt8) (w : World) (e : Ending) (w' : World) : Prop :=
  Below w.heap.size w w' ∧ ((L.length ≤ 200 ∧ e = .returned (.tuple #[.string (bytes L), .nilIface])) ∨ (200 < L.length ∧ e = .returned (.tuple #[.string ⟨#[]⟩, .iface 36 (.int .i64 3)])))
theorem sgn_len {t : Tk} (ht : 0 ≤ tak t) (hn : t.2.1 ≤ 9223372036854775807) : (sgn t).length ≤ 20 := by
  obtain ⟨k, n, a⟩ := t
  obtain ⟨ha, hn0, hm⟩ := tak_may ht
  simp only at ha hn0 hm hn
  rcases hm with ⟨rfl, rfl⟩ | hm
  · rw [sgn_neg]; decide
  · unfold sgn
    split; · simp
    split; · simp
    split; · simp
    split; · simp
    exact textB_len hm hn
theorem bytes_data (X : ByteArray) : bytes X.data.toList = X := by refine ByteArray.ext ?_; simp [bytes]
theorem un_bytes (t : Tk) (S X : ByteArray) (h : bytes (sgn t) = S) : ⟨#[40]⟩ ++ S ++ X ++ ⟨#[41]⟩ = bytes (unS t X.data.toList) ∧ (unS t X.data.toList).length = 1 + S.size + X.size + 1 := by
  have hs : (sgn t).length = S.size := by rw [← h, bytes_size]
  have hx : X.data.toList.length = X.size := (Lib.size_eq X).symm
  refine ⟨?_, ?_⟩
  · unfold unS; rw [bytes_append, bytes_append, bytes_append, h, bytes_data]; rfl
  · unfold unS; simp only [List.length_append, List.length_cons, List.length_nil, hs, hx]
theorem bin_bytes (t : Tk) (S X Y : ByteArray) (h : bytes (sgn t) = S) : ⟨#[40]⟩ ++ X ++ S ++ Y ++ ⟨#[41]⟩ = bytes (binS t X.data.toList Y.data.toList) ∧ (binS t X.data.toList Y.data.toList).length = 1 + X.size + S.size + Y.size + 1 := by
  have hs : (sgn t).length = S.size := by rw [← h, bytes_size]
  have hx : X.data.toList.length = X.size := (Lib.size_eq X).symm
  have hy : Y.data.toList.length = Y.size := (Lib.size_eq Y).symm
  refine ⟨?_, ?_⟩
  · unfold binS; rw [bytes_append, bytes_append, bytes_append, bytes_append, h, bytes_data, bytes_data]; rfl
  · unfold binS; simp only [List.length_append, List.length_cons, List.length_nil, hs, hx, hy]
set_option maxHeartbeats 2000000 in
set_option maxRecDepth 100000 in
theorem join0 (t : Tk) (A : Option Addr) (cap : Nat) (w : World) (hL : Laid w) (ht : 0 ≤ tak t) (hn : t.2.1 ≤ 9223372036854775807) :
    Calls Tryz.prog 23 #[.agg #[.int .i64 t.1, .int .i64 t.2.1, .int .i64 t.2.2], .slice A 0 cap] w (JPost (sgn t) w) := by
  have hnn := neq_nil_nil
  have HB0 := Lib.hid ((Below.refl w.heap.size w).alloc (Nat.le_refl _) (.cells #[.int .i64 t.1, .int .i64 t.2.1, .int .i64 t.2.2] 40))
  have HS := Lib.hid (psign_any t _ (hL.after HB0.out) ht hn)
  have hsl : (bytes (sgn t)).size ≤ 20 := by rw [bytes_size]; exact sgn_len ht hn
  have HC : Hid (∀ w' p x, p.block < w.heap.size → w.cell? p = some x → Below (w.heap.size + 1) (w.alloc (.cells #[.int .i64 t.1, .int .i64 t.2.1, .int .i64 t.2.2] 40)) w' → w'.cell? p = some x) := Lib.hid (fun w' p x hp hx h => by
    rw [h.cell (p := p) (by omega), HB0.out.cell (p := p) hp]; exact hx)
  have HSG := Lib.hid (rfl : bytes (sgn t) = bytes (sgn t))
  generalize hg : bytes (sgn t) = S at *
  have HG := Lib.hid hg
  have HLN := Lib.hid (show (sgn t).length = S.size by rw [← hg, bytes_size])
  clear hL ht hn hg
  go_enter Tryz.func23, Tryz.ntmps23
  go_wp2_with fail
  refine HS.out.mono ?_
  rintro e w1 ⟨rfl, hb1⟩
  have HB1 := Lib.hid (HB0.out.trans (hb1.mono (by simp)))
  clear hb1
  go_wp2_with fail
  go_ret2
  exact ⟨HB1.out, .inl ⟨by rw [HLN.out]; omega, by rw [HG.out]; rfl⟩⟩
set_option maxHeartbeats 2000000 in
set_option maxRecDepth 100000 in
theorem join1 (t : Tk) (X : ByteArray) (b o cap : Nat) (w : World) (hL : Laid w) (ht : 0 ≤ tak t) (hn : t.2.1 ≤ 9223372036854775807) (hb : b < w.heap.size) (hx : w.cell? ⟨b, o, none⟩ = some (.string X)) (hX : X.size ≤ 200) :
    Calls Tryz.prog 23 #[.agg #[.int .i64 t.1, .int .i64 t.2.1, .int .i64 t.2.2], .slice (some ⟨b, o, none⟩) 1 cap] w (JPost (unS t X.data.toList) w) := by
  have hnn := neq_nil_nil
  have HB0 := Lib.hid ((Below.refl w.heap.size w).alloc (Nat.le_refl _) (.cells #[.int .i64 t.1, .int .i64 t.2.1, .int .i64 t.2.2] 40))
  have HS := Lib.hid (psign_any t _ (hL.after HB0.out) ht hn)
  have hsl : (bytes (sgn t)).size ≤ 20 := by rw [bytes_size]; exact sgn_len ht hn
  have HC : Hid (∀ w' p x, p.block < w.heap.size → w.cell? p = some x → Below (w.heap.size + 1) (w.alloc (.cells #[.int .i64 t.1, .int .i64 t.2.1, .int .i64 t.2.2] 40)) w' → w'.cell? p = some x) := Lib.hid (fun w' p x hp hx h => by
    rw [h.cell (p := p) (by omega), HB0.out.cell (p := p) hp]; exact hx)
  have HSG := Lib.hid (rfl : bytes (sgn t) = bytes (sgn t))
  generalize hg : bytes (sgn t) = S at *
  have HG := Lib.hid hg
  have HUN := Lib.hid (un_bytes t S X hg)
  have HX0 := Lib.hid hx
  clear hL ht hn hg hx
  go_enter Tryz.func23, Tryz.ntmps23
  go_wp2_with fail
  refine HS.out.mono ?_
  rintro e w1 ⟨rfl, hb1⟩
  have c0 := HC.out w1 ⟨b, o, none⟩ _ hb HX0.out (by simpa using hb1)
  have HB1 := Lib.hid (HB0.out.trans (hb1.mono (by simp)))
  clear hb1
  go_wp2_with fail
  · go_ret2
    exact ⟨HB1.out, .inr ⟨by rw [HUN.out.2]; omega, rfl⟩⟩
  · go_ret2
    exact ⟨HB1.out, .inl ⟨by rw [HUN.out.2]; omega, by rw [← HUN.out.1]; rfl⟩⟩
set_option maxHeartbeats 2000000 in
set_option maxRecDepth 100000 in
theorem join2 (t : Tk) (X Y : ByteArray) (b o cap : Nat) (w : World) (hL : Laid w) (ht : 0 ≤ tak t) (hn : t.2.1 ≤ 9223372036854775807) (hb : b < w.heap.size) (hc : 2 ≤ cap) (hx : w.cell? ⟨b, o, none⟩ = some (.string X)) (hy : w.cell? ⟨b, o + 1, none⟩ = some (.string Y)) (hX : X.size ≤ 200) (hY : Y.size ≤ 200) :
    Calls Tryz.prog 23 #[.agg #[.int .i64 t.1, .int .i64 t.2.1, .int .i64 t.2.2], .slice (some ⟨b, o, none⟩) 2 cap] w (JPost (binS t X.data.toList Y.data.toList) w) := by
  have hnn := neq_nil_nil
  have HB0 := Lib.hid ((Below.refl w.heap.size w).alloc (Nat.le_refl _) (.cells #[.int .i64 t.1, .int .i64 t.2.1, .int .i64 t.2.2] 40))
  have HS := Lib.hid (psign_any t _ (hL.after HB0.out) ht hn)
  have hsl : (bytes (sgn t)).size ≤ 20 := by rw [bytes_size]; exact sgn_len ht hn
  have HC : Hid (∀ w' p x, p.block < w.heap.size → w.cell? p = some x → Below (w.heap.size + 1) (w.alloc (.cells #[.int .i64 t.1, .int .i64 t.2.1, .int .i64 t.2.2] 40)) w' → w'.cell? p = some x) := Lib.hid (fun w' p x hp hx h => by
    rw [h.cell (p := p) (by omega), HB0.out.cell (p := p) hp]; exact hx)
  have HSG := Lib.hid (rfl : bytes (sgn t) = bytes (sgn t))
  generalize hg : bytes (sgn t) = S at *
  have HG := Lib.hid hg
  have HUN := Lib.hid (bin_bytes t S X Y hg)
  have HX0 := Lib.hid hx
  have HY0 := Lib.hid hy
  clear hL ht hn hg hx hy
  go_enter Tryz.func23, Tryz.ntmps23
  go_wp2_with fail
  refine HS.out.mono ?_
  rintro e w1 ⟨rfl, hb1⟩
  have c0 := HC.out w1 ⟨b, o, none⟩ _ hb HX0.out (by simpa using hb1)
  have c1 := HC.out w1 ⟨b, o + 1, none⟩ _ hb HY0.out (by simpa using hb1)
  have HB1 := Lib.hid (HB0.out.trans (hb1.mono (by simp)))
  clear hb1
  go_wp2_with fail
  go_quiet (fail)
  go_wp2_with fail
  · go_ret2
    exact ⟨below_drewN HB1.out _, .inr ⟨by rw [HUN.out.2]; omega, rfl⟩⟩
  · go_ret2
    exact ⟨below_drewN HB1.out _, .inl ⟨by rw [HUN.out.2]; omega, by rw [← HUN.out.1]; rfl⟩⟩
end Go.Proofs.YtdeopkjpglkdhaaGreatDoor
