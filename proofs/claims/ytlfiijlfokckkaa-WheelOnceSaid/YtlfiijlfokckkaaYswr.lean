/- Rows of timers while they are sorted: exchanges. -/
import Derived.Test.YtlfiijlfokckkaaYcmp
import Derived.Deep.LoopGhost
namespace Go.Proofs.Ytlfiijlfokckkaa
open Go.ChangeShapes Go.WideShapes Go.ChangeAt Go.RowKit Go.Sort Go.Lib
set_option linter.unusedVariables false

abbrev fn (d : Array Tm) : Nat → Tm := fun i => d[i]!
theorem fn_swp {d : Array Tm} {i j : Nat} (hi : i < d.size) (hj : j < d.size) : fn (swp d i j) = swF (fn d) i j := by
  funext k
  unfold swF
  exact swp_get d hi hj k
abbrev SWT (w0 : World) (blk : Nat) (d : Array Tm) (W : World) : Prop := SWK encT 3 w0 blk 0 d W
abbrev RowT (w0 : World) (blk : Nat) (d : Array Tm) : Prop := RowK encT 3 w0 blk 0 d

theorem swt_cells {w0 W : World} {blk : Nat} {d0 dk : Array Tm} (h : SWT w0 blk dk W) (R : RowT w0 blk d0) (hs : dk.size = d0.size) (i : Nat) (hi : i < dk.size) :
    (W.cell? ⟨blk, i * 3, none⟩ = some (.int .i64 dk[i]!.id) ∧ W.cell? ⟨blk, i * 3 + 1, none⟩ = some (.int .i64 dk[i]!.tick) ∧ W.cell? ⟨blk, i * 3 + 2, none⟩ = some (.int .i64 dk[i]!.wh)) ∧
    (W.frozen? ⟨blk, i * 3, none⟩ = false ∧ W.frozen? ⟨blk, i * 3 + 1, none⟩ = false ∧ W.frozen? ⟨blk, i * 3 + 2, none⟩ = false) := by
  have hH := h.holds R.hblk R.hH hs
  have c0 := hH.cell hi (show 0 < 3 by decide)
  have c1 := hH.cell hi (show 1 < 3 by decide)
  have c2 := hH.cell hi (show 2 < 3 by decide)
  rw [Nat.zero_add] at c0 c1 c2
  exact ⟨⟨c0.1, c1.1, c2.1⟩, c0.2, c1.2, c2.2⟩
theorem swt_swapped {w0 W : World} {blk : Nat} {d0 dk : Array Tm} (h : SWT w0 blk dk W) (R : RowT w0 blk d0) (i j : Nat) (hi : i < dk.size) (hj : j < dk.size) :
    SWT w0 blk (swp dk i j) (((((((W.setCell ⟨blk, i * 3, none⟩ (.int .i64 dk[j]!.id)).setCell ⟨blk, i * 3 + 1, none⟩ (.int .i64 dk[j]!.tick)).setCell ⟨blk, i * 3 + 2, none⟩ (.int .i64 dk[j]!.wh)).setCell ⟨blk, j * 3, none⟩ (.int .i64 dk[i]!.id)).setCell ⟨blk, j * 3 + 1, none⟩ (.int .i64 dk[i]!.tick)).setCell ⟨blk, j * 3 + 2, none⟩ (.int .i64 dk[i]!.wh)).drew) := by
  have := h.swapped R i j hi hj
  rw [Nat.zero_add, Nat.zero_add] at this
  have e : ∀ (w : World) (a : Addr) (v : Value), w.drew.setCell a v = (w.setCell a v).drew := fun _ _ _ => rfl
  simp only [encT, World.setCells, e] at this
  exact this
set_option maxHeartbeats 4000000 in
set_option maxRecDepth 1000000 in
theorem swapRange_any (blk cap a b n : Nat) (d0 d : Array Tm) (w0 w : World) (cb : Value) (R : RowT w0 blk d0) (hs : d0.size = d.size) (S : SWT w0 blk d w) (hab : a + n ≤ b) (hb : b + n ≤ d.size) (hsz : d.size < 1000000) :
    Calls Try.prog 26 #[.slice (some ⟨blk, 0, none⟩) d.size cap, .int .i64 (a : Int), .int .i64 (b : Int), .int .i64 (n : Int), cb] w fun e w' => e = .returned (.tuple #[]) ∧ ∃ d' : Array Tm, d'.size = d.size ∧ SWT w0 blk d' w' ∧ fn d' = swr (fn d) a b n := by
  have S0 : Aside (SWT w0 blk d w) := S
  clear S
  go_enter Try.func26, Try.ntmps26
  go_wp2
  go_loopg [10] n (fun kx s10 wr => ∃ (i : Nat) (dk : Array Tm), s10 = .int .i64 (i : Int) ∧ i ≤ n ∧ n - i ≤ kx ∧ dk.size = d.size ∧ Aside (SWT w0 blk dk wr) ∧ Hid (fn dk = swr (fn d) a b i))
  case atStart => exact ⟨0, d, rfl, by omega, by omega, rfl, S0, Lib.hid (swr_zero _ _ _).symm⟩
  case round =>
    clear S0
    obtain ⟨i, dk, rfl, hin, hkx, hds, S1, HF⟩ := hrel
    by_cases hlt : i < n
    · have hltz : (i : Int) < (n : Int) := by omega
      go_wp2_with fail
      have wa : IntKind.i64.wrap ((a : Int) + (i : Int)) = ((a + i : Nat) : Int) := by rw [IntKind.wrap_i64]; omega
      have wb : IntKind.i64.wrap ((b : Int) + (i : Int)) = ((b + i : Nat) : Int) := by rw [IntKind.wrap_i64]; omega
      have p1 : (0 : Int) ≤ ((a + i : Nat) : Int) := by omega
      have p2 : (0 : Int) ≤ ((b + i : Nat) : Int) := by omega
      have q1 : ((a + i : Nat) : Int) < (d.size : Int) := by omega
      have q2 : ((b + i : Nat) : Int) < (d.size : Int) := by omega
      have t1 : ((a + i : Nat) : Int).toNat = a + i := by omega
      have t2 : ((b + i : Nat) : Int).toNat = b + i := by omega
      have HF2 : Hid (fn (swp dk (a + i) (b + i)) = swr (fn d) a b (i + 1)) := Lib.hid (by
        rw [fn_swp (by omega) (by omega), HF.out]
        exact swr_step (by omega))
      have S2 := Lib.hid (swt_swapped S1.out R (a + i) (b + i) (by omega) (by omega))
      have hz2 : (swp dk (a + i) (b + i)).size = d.size := by rw [size_swp]; exact hds
      obtain ⟨⟨c0, c1, c2⟩, f0, f1, f2⟩ := swt_cells S1.out R (by omega) (a + i) (by omega)
      obtain ⟨⟨e0, e1, e2⟩, g0, g1, g2⟩ := swt_cells S1.out R (by omega) (b + i) (by omega)
      have hne : ¬ a + i = b + i := by omega
      generalize dk[a + i]! = X at *
      generalize dk[b + i]! = Y at *
      generalize a + i = A at *
      generalize b + i = B at *
      obtain ⟨x0, x1, x2⟩ := X
      obtain ⟨y0, y1, y2⟩ := Y
      simp only at c0 c1 c2 e0 e1 e2
      have m0 : ¬ B = A := fun h => hne h.symm
      have m1 : ¬ B * 3 = A * 3 + 1 := by omega
      have m2 : ¬ B * 3 = A * 3 + 2 := by omega
      have m3 : ¬ B * 3 + 1 = A * 3 := by omega
      have m4 : ¬ B * 3 + 2 = A * 3 := by omega
      clear S1
      have mixed : Try.prog.follows .mixedOrders = true := by kernel_rfl
      go_big_region_o
      all_goals go_wp2
      go_roundg (n - (i + 1))
      case measure => omega
      case rel => exact ⟨i + 1, _, by go_num, by omega, by omega, hz2, S2.out, HF2⟩
    · have hltz : ¬ (i : Int) < (n : Int) := by omega
      go_wp2
      go_end0
      obtain rfl : i = n := by omega
      exact ⟨rfl, dk, hds, S1.out, HF.out⟩
end Go.Proofs.Ytlfiijlfokckkaa
