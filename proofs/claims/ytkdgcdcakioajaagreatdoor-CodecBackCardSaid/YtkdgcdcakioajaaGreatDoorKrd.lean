/- The contracts of codec's reader's number, count, truth and text. -/
import Derived.Test.YtkdgcdcakioajaaGreatDoorKmem
namespace Go.Proofs.YtkdgcdcakioajaaGreatDoor
open Go.ChangeShapes Go.WideShapes Go.ChangeAt Go.RowKit
set_option linter.unusedVariables false

/-- what a reader's call needs: the bytes lie below its block, and it stands there -/
structure RCtx (W0 : World) (vin : Value) (l : List UInt8) (g : Nat) : Prop where
  bytes : BytesAt W0 vin l
  le : W0.heap.size ≤ g
  len : l.length ≤ 1000000
set_option maxHeartbeats 400000 in
set_option maxRecDepth 100000 in
theorem number_any {W0 : World} {vin : Value} {l : List UInt8} {g : Nat} (hC : RCtx W0 vin l g) (s : RS) (w : World) (hb : Below W0.heap.size W0 w) (hS : RdAt g vin w s) (hk : s.1 ≤ l.length) :
    Calls Tryz.prog 27 #[.pointer (some ⟨g, 0, none⟩)] w (RPost' g vin (numP l s) (fun x => .int .i64 x) w) := by
  have HU := Lib.hid (upTo_any W0 vin l g 2147483647 2 s w hC.bytes hb hC.le hS hk hC.len (by omega) (by omega))
  go_enter Tryz.func27, Tryz.ntmps27
  go_wp2_with fail
  refine HU.out.mono ?_
  rintro e w1 ⟨rfl, h1, h2⟩
  have H1 := Lib.hid h1
  have H2 := Lib.hid h2
  clear h1 h2
  go_wp2_with fail
  go_ret
  exact ⟨rfl, H1.out, H2.out⟩
set_option maxHeartbeats 400000 in
set_option maxRecDepth 100000 in
theorem count_any {W0 : World} {vin : Value} {l : List UInt8} {g : Nat} (hC : RCtx W0 vin l g) (most : Int) (s : RS) (w : World) (hb : Below W0.heap.size W0 w) (hS : RdAt g vin w s) (hk : s.1 ≤ l.length) (h0 : 0 ≤ most) (h1 : most ≤ 1000) :
    Calls Tryz.prog 28 #[.pointer (some ⟨g, 0, none⟩), .int .i64 most] w (RPost' g vin (upToP l most 3 s) (fun x => .int .i64 x) w) := by
  have HU := Lib.hid (upTo_any W0 vin l g most 3 s w hC.bytes hb hC.le hS hk hC.len h0 (by omega))
  go_enter Tryz.func28, Tryz.ntmps28
  go_wp2_with fail
  refine HU.out.mono ?_
  rintro e w1 ⟨rfl, h1, h2⟩
  have H1 := Lib.hid h1
  have H2 := Lib.hid h2
  clear h1 h2
  go_wp2_with fail
  go_ret
  exact ⟨rfl, H1.out, H2.out⟩
set_option maxHeartbeats 400000 in
set_option maxRecDepth 100000 in
theorem truth_any' {W0 : World} {vin : Value} {l : List UInt8} {g : Nat} (hC : RCtx W0 vin l g) (s : RS) (w : World) (hb : Below W0.heap.size W0 w) (hS : RdAt g vin w s) (hk : s.1 ≤ l.length) :
    Calls Tryz.prog 62 #[.pointer (some ⟨g, 0, none⟩)] w (RPost' g vin (truthP l s) (fun x => .bool x) w) := by
  have HU := Lib.hid (upTo_any W0 vin l g 1 2 s w hC.bytes hb hC.le hS hk hC.len (by omega) (by omega))
  have hR : truthP l s = (decide ((upToP l 1 2 s).1 = 1), (upToP l 1 2 s).2) := rfl
  have HR := Lib.hid hR
  clear hR
  generalize upToP l 1 2 s = U at *
  go_enter Tryz.func62, Tryz.ntmps62
  go_wp2_with fail
  refine HU.out.mono ?_
  rintro e w1 ⟨rfl, h1, h2⟩
  have H1 := Lib.hid h1
  have H2 := Lib.hid h2
  clear h1 h2
  go_wp2_with fail
  go_ret
  rw [HR.out]
  exact ⟨ret_bool (by rw [Bool.eq_iff_iff, beq_iff_eq, decide_eq_true_iff]), H1.out, H2.out⟩
/-- the bytes of a part of a slice, as a text -/
theorem part_text {w : World} {b o len cap k n : Nat} {l : List UInt8} (h : BytesAt w (.slice (some ⟨b, o, none⟩) len cap) l) (hn : k + n ≤ l.length) :
    ∀ i, i < n → w.cell? ⟨b, o + k + i, none⟩ = some (.int .u8 ((((l.drop k).take n).map (fun x => (x.toNat : Int))).getD i 0)) := by
  obtain ⟨A, cap', hv, hc, hi⟩ := h
  injection hv with h1 h2 h3
  intro i hin
  have hl : k + i < l.length := by omega
  obtain ⟨b', o', hA, hb, hcell⟩ := hi (k + i) l[k + i] (List.getElem?_eq_getElem hl)
  rw [← h1] at hA
  injection hA with hA
  injection hA with e1 e2
  subst e1; subst e2
  unfold ByteAt at hcell
  rw [show o + k + i = o + (k + i) * 1 by omega, hcell]
  simp [List.getD, hl, hin]
theorem nums_text (l : List UInt8) : strOfNums (l.map (fun x => (x.toNat : Int))) = ⟨l.toArray⟩ := by
  unfold strOfNums
  congr 1
  rw [List.map_map]
  congr 1
  simp [Function.comp_def]
theorem conv_zero (w : World) (a : Addr) (len cap : Nat) (h : len = 0) : (convert 26 9 (.slice (some a) len cap)).run Tryz.prog w = .ok (.string ⟨#[]⟩) w := by
  subst h
  have hl : (loadCells a 0).run Tryz.prog w = .ok (([] : List Int).map (Value.int .u8)).toArray w := by simp [loadCells, loadCellsFrom]
  rw [run_convert_bytes_string (P := Tryz.prog) w 26 9 5 _ _ _ Tryz.underlying26 Tryz.underlying5 Tryz.underlying9, run_bytesToString w a 0 cap [] hl]
  rfl
/-- a part of a slice of bytes, as a text -/
theorem conv_part {w : World} {X Y : Option Addr} {len cap cap' k n : Nat} {l : List UInt8} (h : BytesAt w (.slice X len cap) l) (hn : k + n ≤ l.length) (hY : (Y = none ∧ X = none) ∨ (∃ a, Y = some a ∧ (n = 0 ∨ ∀ b o, X = some ⟨b, o, none⟩ → a = ⟨b, o + k, none⟩))) :
    (convert 26 9 (.slice Y n cap')).run Tryz.prog w = .ok (.string ⟨((l.drop k).take n).toArray⟩) w := by
  by_cases h0 : n = 0
  · subst h0
    rw [List.take_zero]
    rcases hY with ⟨rfl, _⟩ | ⟨a, rfl, _⟩
    · exact run_convert_bytes_nil (P := Tryz.prog) w 26 5 Tryz.underlying26 Tryz.underlying5 _ _ 9 Tryz.underlying9
    · exact conv_zero w a 0 cap' rfl
  · obtain ⟨b, o, hX⟩ : ∃ b o, X = some ⟨b, o, none⟩ := by
      obtain ⟨A, cap1, hv, hc, hi⟩ := h
      obtain ⟨b, o, hA, _⟩ := hi 0 l[0] (List.getElem?_eq_getElem (by omega))
      injection hv with h1
      exact ⟨b, o, h1.trans hA⟩
    rcases hY with ⟨_, hc⟩ | ⟨a, rfl, hc⟩
    · rw [hX] at hc; cases hc
    · rcases hc with hc | hc
      · exact absurd hc h0
      · rw [hc b o hX]
        rw [hX] at h
        have hlen : ((l.drop k).take n).length = n := by rw [List.length_take, List.length_drop]; omega
        have := run_convert_bytes_arg (P := Tryz.prog) w 26 5 Tryz.underlying26 Tryz.underlying5 b (o + k) n cap' (((l.drop k).take n).map (fun x => (x.toNat : Int))) (by rw [List.length_map, hlen]) (part_text h hn) 9 Tryz.underlying9
        rwa [nums_text] at this
set_option maxHeartbeats 1000000 in
set_option maxRecDepth 100000 in
theorem text_any' {W0 : World} {vin : Value} {l : List UInt8} {g : Nat} (hC : RCtx W0 vin l g) (s : RS) (w : World) (hb : Below W0.heap.size W0 w) (hS : RdAt g vin w s) (hk : s.1 ≤ l.length) :
    Calls Tryz.prog 61 #[.pointer (some ⟨g, 0, none⟩)] w (RPost' g vin (textP l s) (fun x => .string x) w) := by
  have HU := Lib.hid (count_any hC 200 s w hb hS hk (by omega) (by omega))
  have hle := (upTo_cod l 200 3 (by omega) (by omega)).le s hk
  have hrg := upTo_range l 200 3 (by omega) s
  have hR : textP l s = textP l s := rfl
  conv at hR => rhs; unfold textP
  generalize textP l s = R at *
  generalize upToP l 200 3 s = U at *
  obtain ⟨n, k, f⟩ := U
  simp only at hle hrg hR
  have hl := hC.len
  have HCB := Lib.hid hC
  obtain ⟨A, cap, rfl, hcap, _⟩ := hC.bytes
  have HA := Lib.hid (fun W (h : w.grownBy W (some g)) => HCB.out.bytes.below (grown_below hb HCB.out.le h))
  obtain ⟨m, rfl⟩ : ∃ m : Nat, n = (m : Int) := ⟨n.toNat, by omega⟩
  clear hC
  by_cases hf : (l.length : Int) - (k : Int) < (m : Int)
  · rw [if_pos hf] at hR
    have hz : decide ((l.length : Int) - (k : Int) < (m : Int)) = true := by simpa using hf
    subst hR
    go_enter Tryz.func61, Tryz.ntmps61
    go_wp2_with fail
    refine HU.out.mono ?_
    rintro e w1 ⟨rfl, h1, h2⟩
    have H1 := Lib.hid h1
    have H2 := Lib.hid h2
    unfold RdAt at h2
    obtain ⟨⟨c0, c1, c2⟩, f0, f1, f2⟩ := h2.facts3
    clear h1 h2
    go_wp2_with fail
    go_quiet (fail)
    go_wp2
    go_ret
    exact ⟨rfl, grown_set (grown_drewN H1.out _) 2 _, Blk.set_ (Blk.drewN H2.out _) 2 _⟩
  · rw [if_neg hf] at hR
    have hz : decide ((l.length : Int) - (k : Int) < (m : Int)) = false := by simpa using hf
    subst hR
    have hm : k + m ≤ l.length := by omega
    have e5 : (k : Int) ≤ (k : Int) + (m : Int) := by omega
    have e6 : (k : Int) + (m : Int) ≤ (cap : Int) := by omega
    have e7 : 0 ≤ (k : Int) + (m : Int) := by omega
    have e8 : ((k : Int) + (m : Int)).toNat - k = m := by omega
    have e9 : ((k : Int) + (m : Int)).toNat = k + m := by omega
    have hcut : ∃ P : Option Addr, (∀ W, BytesAt W (.slice A l.length cap) l → (convert 26 9 (.slice P m (cap - k))).run Tryz.prog W = .ok (.string ⟨((l.drop k).take m).toArray⟩) W) ∧ ((A = none ∧ P = none) ∨ (P = A ∧ cap = k) ∨ (∃ a, A = some a ∧ P = some (a.add k) ∧ ¬ cap = k)) := by
      cases A with
      | none => exact ⟨none, fun W hW => conv_part hW hm (.inl ⟨rfl, rfl⟩), .inl ⟨rfl, rfl⟩⟩
      | some a =>
        by_cases hck : cap = k
        · exact ⟨some a, fun W hW => conv_part hW hm (.inr ⟨a, rfl, .inl (by omega)⟩), .inr (.inl ⟨rfl, hck⟩)⟩
        · refine ⟨some (a.add k), fun W hW => conv_part hW hm (.inr ⟨a.add k, rfl, .inr fun b o h => ?_⟩), .inr (.inr ⟨a, rfl, rfl, hck⟩)⟩
          injection h with h
          subst h
          unfold Addr.add
          by_cases hk0 : k = 0 <;> simp [hk0]
    obtain ⟨P, hP, hcase⟩ := hcut
    have HP := Lib.hid hP
    clear hP
    rcases hcase with ⟨rfl, rfl⟩ | ⟨rfl, hck⟩ | ⟨a, rfl, rfl, hck⟩
    · go_enter Tryz.func61, Tryz.ntmps61
      go_wp2_with fail
      refine HU.out.mono ?_
      rintro e w1 ⟨rfl, h1, h2⟩
      have H1 := Lib.hid h1
      have H2 := Lib.hid h2
      unfold RdAt at h2
      obtain ⟨⟨c0, c1, c2⟩, f0, f1, f2⟩ := h2.facts3
      clear h1 h2
      go_wp2_with fail
      go_quiet (fail)
      have hconv := fun j => HP.out (w1.drewN j) (HA.out _ (grown_drewN H1.out j))
      go_wp2
      go_quiet (fail)
      go_wp2
      go_ret
      exact ⟨rfl, grown_set (grown_drewN H1.out _) 1 _, Blk.set_ (Blk.drewN H2.out _) 1 _⟩
    · subst hck
      obtain rfl : m = 0 := by omega
      simp only [Nat.sub_self] at HP
      go_enter Tryz.func61, Tryz.ntmps61
      go_wp2_with fail
      refine HU.out.mono ?_
      rintro e w1 ⟨rfl, h1, h2⟩
      have H1 := Lib.hid h1
      have H2 := Lib.hid h2
      unfold RdAt at h2
      obtain ⟨⟨c0, c1, c2⟩, f0, f1, f2⟩ := h2.facts3
      clear h1 h2
      go_wp2_with fail
      go_quiet (fail)
      have hconv := fun j => HP.out (w1.drewN j) (HA.out _ (grown_drewN H1.out j))
      go_wp2
      go_quiet (fail)
      go_wp2
      go_ret
      exact ⟨rfl, grown_set (grown_drewN H1.out _) 1 _, Blk.set_ (Blk.drewN H2.out _) 1 _⟩
    · go_enter Tryz.func61, Tryz.ntmps61
      go_wp2_with fail
      refine HU.out.mono ?_
      rintro e w1 ⟨rfl, h1, h2⟩
      have H1 := Lib.hid h1
      have H2 := Lib.hid h2
      unfold RdAt at h2
      obtain ⟨⟨c0, c1, c2⟩, f0, f1, f2⟩ := h2.facts3
      clear h1 h2
      go_wp2_with fail
      go_quiet (fail)
      have hconv := fun j => HP.out (w1.drewN j) (HA.out _ (grown_drewN H1.out j))
      go_wp2
      go_quiet (fail)
      go_wp2
      go_ret
      exact ⟨rfl, grown_set (grown_drewN H1.out _) 1 _, Blk.set_ (Blk.drewN H2.out _) 1 _⟩
end Go.Proofs.YtkdgcdcakioajaaGreatDoor
