/- The contracts of parse's reader's small functions: the Kind of the token where it stands (kind), the byte where it stands (byteIn); and slices.Contains over ints. -/
import Derived.Test.YtmbmijhfoncncaaGreatDoorPgen
namespace Go.Proofs.YtmbmijhfoncncaaGreatDoor
open Go.ChangeShapes Go.WideShapes Go.ChangeAt Go.RowKit
set_option linter.unusedVariables false

theorem drewN_two (w : World) (a b : Nat) : (w.drewN a).drewN b = w.drewN (a + b) := by simp [World.drewN, Nat.add_assoc]
theorem kind_end (g : Nat) (vin v : Value) (ts : List Tk) (w : World) (A : Option Addr) (cap : Nat) (hv : vin = .slice A ts.length cap) (hB : Blk w g 97 #[vin, .int .i64 ts.length, v]) (hl : ts.length ≤ 1000000) :
    Calls Tryz.prog 72 #[.pointer (some ⟨g, 0, none⟩)] w fun e w' => e = .returned (.int .i64 0) ∧ ∃ n, w' = w.drewN n := by
  subst hv
  obtain ⟨⟨c0, c1, c2⟩, _⟩ := hB.facts3
  have hd : decide (ts.length = ts.length) = true := by simp
  clear hB
  go_enter Tryz.func72, Tryz.ntmps72
  go_wp2
  go_quiet (fail)
  go_wp2
  go_ret
  exact ⟨rfl, _, rfl⟩
theorem kind_here (g k b o cap : Nat) (v : Value) (ts : List Tk) (x : Int) (w : World) (hB : Blk w g 97 #[.slice (some ⟨b, o, none⟩) ts.length cap, .int .i64 k, v]) (hk : k < ts.length) (hl : ts.length ≤ 1000000) (hx : w.cell? ⟨b, o + k * 3, none⟩ = some (.int .i64 x)) :
    Calls Tryz.prog 72 #[.pointer (some ⟨g, 0, none⟩)] w fun e w' => e = .returned (.int .i64 x) ∧ ∃ n, w' = w.drewN n := by
  obtain ⟨⟨c0, c1, c2⟩, _⟩ := hB.facts3
  have hne : ((k : Int) == (ts.length : Int)) = false := by simp; omega
  have hne' : (k == ts.length) = false := by simp; omega
  have hd : decide (k = ts.length) = false := by simp; omega
  have hk' : (k : Int) < (ts.length : Int) := by omega
  clear hB
  go_enter Tryz.func72, Tryz.ntmps72
  go_wp2
  go_quiet (fail)
  go_wp2
  go_quiet (fail)
  go_wp2
  go_ret
  exact ⟨rfl, _, drewN_two _ _ _⟩
theorem kind_any (ts : List Tk) (g k : Nat) (vin v : Value) (w : World) (o : List Tk) (hT : ToksU g w vin ts) (hS : RSt g vin w k v o) (hk : k ≤ ts.length) (hl : ts.length ≤ 1000000) :
    Calls Tryz.prog 72 #[.pointer (some ⟨g, 0, none⟩)] w fun e w' => e = .returned (.int .i64 (knd ts k)) ∧ ∃ n, w' = w.drewN n := by
  obtain ⟨A, cap, hv, hc, hi⟩ := hT
  rcases Nat.lt_or_ge k ts.length with hlt | hge
  · obtain ⟨b, o, rfl, hb, c0, c1, c2⟩ := hi k ts[k] (List.getElem?_eq_getElem hlt)
    rw [knd_at (List.getElem?_eq_getElem hlt)]
    subst hv
    exact kind_here g k b o cap v ts _ w hS.blk hlt hl c0
  · obtain rfl : k = ts.length := by omega
    rw [knd_end]
    exact kind_end g vin v ts w A cap hv hS.blk hl

/-- the byte of a token, or of the end -/
def byteAt (ts : List Tk) (len k : Nat) : Int := (ts[k]?.map fun t => t.2.2).getD len
theorem byteIn_end (g : Nat) (s : ByteArray) (vin v : Value) (ts : List Tk) (w : World) (A : Option Addr) (cap : Nat) (hv : vin = .slice A ts.length cap) (hB : Blk w g 97 #[vin, .int .i64 ts.length, v]) (hl : ts.length ≤ 1000000) (hs : s.size ≤ 1000000) :
    Calls Tryz.prog 52 #[.pointer (some ⟨g, 0, none⟩), .string s] w fun e w' => e = .returned (.int .i64 s.size) ∧ ∃ n, w' = w.drewN n := by
  subst hv
  obtain ⟨⟨c0, c1, c2⟩, _⟩ := hB.facts3
  have hd : decide (ts.length = ts.length) = true := by simp
  clear hB
  go_enter Tryz.func52, Tryz.ntmps52
  go_wp2
  go_quiet (fail)
  go_wp2
  go_ret
  exact ⟨rfl, _, rfl⟩
theorem byteIn_here (g k b o cap : Nat) (s : ByteArray) (v : Value) (ts : List Tk) (x : Int) (w : World) (hB : Blk w g 97 #[.slice (some ⟨b, o, none⟩) ts.length cap, .int .i64 k, v]) (hk : k < ts.length) (hl : ts.length ≤ 1000000) (hs : s.size ≤ 1000000) (hx : w.cell? ⟨b, o + k * 3 + 2, none⟩ = some (.int .i64 x)) :
    Calls Tryz.prog 52 #[.pointer (some ⟨g, 0, none⟩), .string s] w fun e w' => e = .returned (.int .i64 x) ∧ ∃ n, w' = w.drewN n := by
  obtain ⟨⟨c0, c1, c2⟩, _⟩ := hB.facts3
  have hne : ((k : Int) == (ts.length : Int)) = false := by simp; omega
  have hne' : (k == ts.length) = false := by simp; omega
  have hd : decide (k = ts.length) = false := by simp; omega
  have hk' : (k : Int) < (ts.length : Int) := by omega
  clear hB
  go_enter Tryz.func52, Tryz.ntmps52
  go_wp2
  go_quiet (fail)
  go_wp2
  go_quiet (fail)
  go_wp2
  go_ret
  exact ⟨rfl, _, drewN_two _ _ _⟩
theorem byteIn_any (ts : List Tk) (g k : Nat) (s : ByteArray) (vin v : Value) (w : World) (o : List Tk) (hT : ToksU g w vin ts) (hS : RSt g vin w k v o) (hk : k ≤ ts.length) (hl : ts.length ≤ 1000000) (hs : s.size ≤ 1000000) :
    Calls Tryz.prog 52 #[.pointer (some ⟨g, 0, none⟩), .string s] w fun e w' => e = .returned (.int .i64 (byteAt ts s.size k)) ∧ ∃ n, w' = w.drewN n := by
  obtain ⟨A, cap, hv, hc, hi⟩ := hT
  rcases Nat.lt_or_ge k ts.length with hlt | hge
  · obtain ⟨b, o, rfl, hb, c0, c1, c2⟩ := hi k ts[k] (List.getElem?_eq_getElem hlt)
    have h : byteAt ts s.size k = ts[k].2.2 := by unfold byteAt; rw [List.getElem?_eq_getElem hlt]; rfl
    rw [h]
    subst hv
    exact byteIn_here g k b o cap s v ts _ w hS.blk hlt hl hs c2
  · obtain rfl : k = ts.length := by omega
    have h : byteAt ts s.size ts.length = s.size := by unfold byteAt; rw [List.getElem?_eq_none (Nat.le_refl _)]; rfl
    rw [h]
    exact byteIn_end g s vin v ts w A cap hv hS.blk hl hs

/-! ### slices.Contains -/
/-- these ints lie there -/
def IntsAt (w : World) (b : Nat) (xs : List Int) : Prop := ∀ (i : Nat) (x : Int), xs[i]? = some x → w.cell? ⟨b, i, none⟩ = some (.int .i64 x)
theorem index_yes (xs : List Int) (b cap : Nat) (x : Int) (w : World) (hx : IntsAt w b xs) (hl : xs.length ≤ 1000000) (hm : x ∈ xs) :
    Calls Tryz.prog 77 #[.slice (some ⟨b, 0, none⟩) xs.length cap, .int .i64 x] w fun e w' => (∃ k : Nat, e = .returned (.int .i64 k)) ∧ w = w' := by
  have HX := Lib.hid hx
  have HM := Lib.hid hm
  clear hx hm
  go_enter Tryz.func77, Tryz.ntmps77
  go_wp2
  go_loop [8] (fun i => ∃ k : Nat, k ≤ xs.length ∧ i = .int .i64 k ∧ Hid (∀ j y, j < k → xs[j]? = some y → y ≠ x)) (fun i => xs.length - (intOf i).toNat)
  case atStart => exact ⟨0, Nat.zero_le _, rfl, Lib.hid (fun j y h => by omega)⟩
  case round =>
    obtain ⟨k, hk, rfl, hno⟩ := hrel
    by_cases hlt : k < xs.length
    · have c := HX.out k xs[k] (List.getElem?_eq_getElem hlt)
      have HE := Lib.hid (List.getElem?_eq_getElem hlt)
      generalize xs[k] = y at *
      by_cases hy : x = y
      · subst hy
        go_wp2
        go_ret
        exact ⟨⟨k, rfl⟩, rfl⟩
      · have hy' : (x == y) = false := by simpa using hy
        have HY := Lib.hid hy
        clear hy
        go_wp2
        go_round
        case rel => exact ⟨k + 1, by omega, by go_num, Lib.hid (fun j z hj hz => by
          by_cases hjk : j = k
          · subst hjk; rw [HE.out] at hz; injection hz with hz; subst hz; exact fun h => HY.out h.symm
          · exact hno.out j z (by omega) hz)⟩
        case measure => simp [intOf]; omega
    · exfalso
      obtain ⟨j, hj⟩ := List.getElem?_of_mem HM.out
      have := (List.getElem?_eq_some_iff.1 hj).1
      exact hno.out j x (by omega) hj rfl
theorem index_no (xs : List Int) (b cap : Nat) (x : Int) (w : World) (hx : IntsAt w b xs) (hl : xs.length ≤ 1000000) (hm : x ∉ xs) :
    Calls Tryz.prog 77 #[.slice (some ⟨b, 0, none⟩) xs.length cap, .int .i64 x] w fun e w' => e = .returned (.int .i64 (-1)) ∧ w = w' := by
  have HX := Lib.hid hx
  have HM := Lib.hid hm
  clear hx hm
  go_enter Tryz.func77, Tryz.ntmps77
  go_wp2
  go_loop [8] (fun i => ∃ k : Nat, k ≤ xs.length ∧ i = .int .i64 k) (fun i => xs.length - (intOf i).toNat)
  case atStart => exact ⟨0, Nat.zero_le _, rfl⟩
  case round =>
    obtain ⟨k, hk, rfl⟩ := hrel
    by_cases hlt : k < xs.length
    · have c := HX.out k xs[k] (List.getElem?_eq_getElem hlt)
      have hy : x ≠ xs[k] := fun h => HM.out (by rw [h]; exact List.getElem_mem hlt)
      have hy' : (x == xs[k]) = false := by simpa using hy
      clear hy
      generalize xs[k] = y at *
      go_wp2
      go_round
      case rel => exact ⟨k + 1, by omega, by go_num⟩
      case measure => simp [intOf]; omega
    · go_wp2
      go_ret
      exact ⟨rfl, rfl⟩
def hasB (xs : List Int) (x : Int) : Bool := decide (x ∈ xs)
theorem contains_any (xs : List Int) (b cap : Nat) (x : Int) (w : World) (hx : IntsAt w b xs) (hl : xs.length ≤ 1000000) :
    Calls Tryz.prog 71 #[.slice (some ⟨b, 0, none⟩) xs.length cap, .int .i64 x] w fun e w' => e = .returned (.bool (hasB xs x)) ∧ w = w' := by
  by_cases hm : x ∈ xs
  · have h : hasB xs x = true := by simpa [hasB] using hm
    rw [h]
    have HM := Lib.hid hm
    have HX := Lib.hid hx
    clear hm hx h
    go_enter Tryz.func71, Tryz.ntmps71
    go_wp2_with fail
    refine (index_yes xs b cap x w HX.out hl HM.out).mono ?_
    rintro e w' ⟨⟨k, rfl⟩, rfl⟩
    go_wp2
    go_ret
    exact ⟨rfl, rfl⟩
  · have h : hasB xs x = false := by simpa [hasB] using hm
    rw [h]
    have HM := Lib.hid hm
    have HX := Lib.hid hx
    clear hm hx h
    go_enter Tryz.func71, Tryz.ntmps71
    go_wp2_with fail
    refine (index_no xs b cap x w HX.out hl HM.out).mono ?_
    rintro e w' ⟨rfl, rfl⟩
    go_wp2
    go_ret
    exact ⟨rfl, rfl⟩
end Go.Proofs.YtmbmijhfoncncaaGreatDoor
