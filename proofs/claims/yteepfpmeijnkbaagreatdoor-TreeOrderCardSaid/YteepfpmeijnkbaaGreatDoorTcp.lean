/- The contracts of tree's copyOf: a row of its own with the same cells. -/
import Derived.Test.YteepfpmeijnkbaaGreatDoorCgen
import Derived.Test.YteepfpmeijnkbaaGreatDoorEstepl
import Derived.Maps.AppendAt
namespace Go.Proofs.YteepfpmeijnkbaaGreatDoor
open Go.ChangeShapes Go.WideShapes Go.ChangeAt Go.RowKit
set_option linter.unusedVariables false

theorem Tryz.infoActs : (Tryz.prog.info? 61).map (fun i => (i.zero, i.size, i.bytes)) = some (some (.agg #[.int .i64 0, .int .i64 0, .int .i64 0, .string ⟨#[]⟩]), 4, 40) := by kernel_rfl
theorem Tryz.infoSts : (Tryz.prog.info? 45).map (fun i => (i.zero, i.size, i.bytes)) = some (some (.agg #[.int .i64 0, .int .i64 0, .slice none 0 0, .slice none 0 0, .slice none 0 0]), 5, 88) := by kernel_rfl
theorem Tryz.infoTrs : (Tryz.prog.info? 47).map (fun i => (i.zero, i.size, i.bytes)) = some (some (.agg #[.int .i64 0, .int .i64 0, .string ⟨#[]⟩, .slice none 0 0, .bool false, .slice none 0 0]), 6, 88) := by kernel_rfl
/-- a slice whose cells are these -/
def RowIs (w : World) (n : Nat) (v : Value) (len : Nat) (news : List Value) : Prop :=
  news.length = len * n ∧ ((∃ c, v = .slice none 0 c ∧ len = 0) ∨ ∃ ad cap, v = .slice (some ad) len cap ∧ (∀ j u, news[j]? = some u → w.cell? (ad.add j) = some u) ∧ ∀ u ∈ news, u.oneCell' = true)
/-- what copyOf tells: these cells, in a row of the call's own -/
def CopyPost (e n len : Nat) (news : List Value) (w : World) (E : Ending) (w' : World) : Prop := Below w.heap.size w w' ∧ ∃ v, E = .returned v ∧ w'.ownsRow w.heap.size e n v len news
set_option maxHeartbeats 1000000 in
theorem copyInt_any (v : Value) (len : Nat) (news : List Value) (w : World) (h : RowIs w 1 v len news) (hl : len ≤ 1000) : Calls Tryz.prog 33 #[v] w (CopyPost 3 1 len news w) := by
  obtain ⟨hn, ⟨c, rfl, rfl⟩ | ⟨ad, cap, rfl, hc, ho⟩⟩ := h
  · obtain rfl : news = [] := List.eq_nil_of_length_eq_zero (by simpa using hn)
    have HB := Lib.hid (Below.refl w.heap.size w)
    clear hn
    go_enter Tryz.func33, Tryz.ntmps33
    go_wp2_with fail
    go_ret
    exact ⟨Below.refl _ _, _, rfl, World.ownsRow_nil _ _ _ _⟩
  · obtain ⟨i0, hi, hz0, hz1, hz2⟩ := info_parts Tryz.info3
    have HI := Lib.hid hi
    have HZ0 := Lib.hid hz0
    have HZ1 := Lib.hid hz1
    have HZ2 := Lib.hid hz2
    have HN := Lib.hid hn
    have HC := Lib.hid hc
    have HO := Lib.hid ho
    clear hi hz0 hz1 hz2 hn hc ho
    go_enter Tryz.func33, Tryz.ntmps33
    go_wp2_with (at_builtin; refine wpList_append_own_at _ rfl _ _ 35 rfl w.heap.size 3 i0 (.int .i64 0) 1 8 Tryz.underlying35 HI.out HZ0.out HZ1.out HZ2.out rfl (by decide) _ 0 [] rfl (World.ownsRow_nil _ _ _ _) ad len cap news rfl HN.out ?c1 HO.out ?c3 ?c4 ?c5 ?_)
    case c1 => exact HC.out
    case c3 => unfold maxLen; omega
    case c4 => omega
    case c5 => exact Nat.le_refl _
    intro v' w2 hown' hgrow _ _
    have HG := Lib.hid (Below.grown (Below.refl w.heap.size w) hgrow (Nat.le_refl _) (fun g hg => by cases hg))
    have HW := Lib.hid hown'
    clear hown' hgrow
    go_wp2
    go_ret
    exact ⟨HG.out, _, rfl, by simpa using HW.out⟩
set_option maxHeartbeats 1000000 in
theorem copyAct_any (v : Value) (len : Nat) (news : List Value) (w : World) (h : RowIs w 4 v len news) (hl : len ≤ 1000) : Calls Tryz.prog 34 #[v] w (CopyPost 61 4 len news w) := by
  obtain ⟨hn, ⟨c, rfl, rfl⟩ | ⟨ad, cap, rfl, hc, ho⟩⟩ := h
  · obtain rfl : news = [] := List.eq_nil_of_length_eq_zero (by simpa using hn)
    have HB := Lib.hid (Below.refl w.heap.size w)
    clear hn
    go_enter Tryz.func34, Tryz.ntmps34
    go_wp2_with fail
    go_ret
    exact ⟨Below.refl _ _, _, rfl, World.ownsRow_nil _ _ _ _⟩
  · obtain ⟨i0, hi, hz0, hz1, hz2⟩ := info_parts Tryz.infoActs
    have HI := Lib.hid hi
    have HZ0 := Lib.hid hz0
    have HZ1 := Lib.hid hz1
    have HZ2 := Lib.hid hz2
    have HN := Lib.hid hn
    have HC := Lib.hid hc
    have HO := Lib.hid ho
    clear hi hz0 hz1 hz2 hn hc ho
    go_enter Tryz.func34, Tryz.ntmps34
    go_wp2_with (at_builtin; refine wpList_append_own_at _ rfl _ _ 43 rfl w.heap.size 61 i0 (.agg #[.int .i64 0, .int .i64 0, .int .i64 0, .string ⟨#[]⟩]) 4 40 Tryz.underlying43 HI.out HZ0.out HZ1.out HZ2.out rfl (by decide) _ 0 [] rfl (World.ownsRow_nil _ _ _ _) ad len cap news rfl HN.out ?c1 HO.out ?c3 ?c4 ?c5 ?_)
    case c1 => exact HC.out
    case c3 => unfold maxLen; omega
    case c4 => omega
    case c5 => exact Nat.le_refl _
    intro v' w2 hown' hgrow _ _
    have HG := Lib.hid (Below.grown (Below.refl w.heap.size w) hgrow (Nat.le_refl _) (fun g hg => by cases hg))
    have HW := Lib.hid hown'
    clear hown' hgrow
    go_wp2
    go_ret
    exact ⟨HG.out, _, rfl, by simpa using HW.out⟩
set_option maxHeartbeats 1000000 in
theorem copySt_any (v : Value) (len : Nat) (news : List Value) (w : World) (h : RowIs w 5 v len news) (hl : len ≤ 1000) : Calls Tryz.prog 31 #[v] w (CopyPost 45 5 len news w) := by
  obtain ⟨hn, ⟨c, rfl, rfl⟩ | ⟨ad, cap, rfl, hc, ho⟩⟩ := h
  · obtain rfl : news = [] := List.eq_nil_of_length_eq_zero (by simpa using hn)
    have HB := Lib.hid (Below.refl w.heap.size w)
    clear hn
    go_enter Tryz.func31, Tryz.ntmps31
    go_wp2_with fail
    go_ret
    exact ⟨Below.refl _ _, _, rfl, World.ownsRow_nil _ _ _ _⟩
  · obtain ⟨i0, hi, hz0, hz1, hz2⟩ := info_parts Tryz.infoSts
    have HI := Lib.hid hi
    have HZ0 := Lib.hid hz0
    have HZ1 := Lib.hid hz1
    have HZ2 := Lib.hid hz2
    have HN := Lib.hid hn
    have HC := Lib.hid hc
    have HO := Lib.hid ho
    clear hi hz0 hz1 hz2 hn hc ho
    go_enter Tryz.func31, Tryz.ntmps31
    go_wp2_with (at_builtin; refine wpList_append_own_at _ rfl _ _ 22 rfl w.heap.size 45 i0 (.agg #[.int .i64 0, .int .i64 0, .slice none 0 0, .slice none 0 0, .slice none 0 0]) 5 88 Tryz.underlying22 HI.out HZ0.out HZ1.out HZ2.out rfl (by decide) _ 0 [] rfl (World.ownsRow_nil _ _ _ _) ad len cap news rfl HN.out ?c1 HO.out ?c3 ?c4 ?c5 ?_)
    case c1 => exact HC.out
    case c3 => unfold maxLen; omega
    case c4 => omega
    case c5 => exact Nat.le_refl _
    intro v' w2 hown' hgrow _ _
    have HG := Lib.hid (Below.grown (Below.refl w.heap.size w) hgrow (Nat.le_refl _) (fun g hg => by cases hg))
    have HW := Lib.hid hown'
    clear hown' hgrow
    go_wp2
    go_ret
    exact ⟨HG.out, _, rfl, by simpa using HW.out⟩
set_option maxHeartbeats 1000000 in
theorem copyTr_any (v : Value) (len : Nat) (news : List Value) (w : World) (h : RowIs w 6 v len news) (hl : len ≤ 1000) : Calls Tryz.prog 32 #[v] w (CopyPost 47 6 len news w) := by
  obtain ⟨hn, ⟨c, rfl, rfl⟩ | ⟨ad, cap, rfl, hc, ho⟩⟩ := h
  · obtain rfl : news = [] := List.eq_nil_of_length_eq_zero (by simpa using hn)
    have HB := Lib.hid (Below.refl w.heap.size w)
    clear hn
    go_enter Tryz.func32, Tryz.ntmps32
    go_wp2_with fail
    go_ret
    exact ⟨Below.refl _ _, _, rfl, World.ownsRow_nil _ _ _ _⟩
  · obtain ⟨i0, hi, hz0, hz1, hz2⟩ := info_parts Tryz.infoTrs
    have HI := Lib.hid hi
    have HZ0 := Lib.hid hz0
    have HZ1 := Lib.hid hz1
    have HZ2 := Lib.hid hz2
    have HN := Lib.hid hn
    have HC := Lib.hid hc
    have HO := Lib.hid ho
    clear hi hz0 hz1 hz2 hn hc ho
    go_enter Tryz.func32, Tryz.ntmps32
    go_wp2_with (at_builtin; refine wpList_append_own_at _ rfl _ _ 23 rfl w.heap.size 47 i0 (.agg #[.int .i64 0, .int .i64 0, .string ⟨#[]⟩, .slice none 0 0, .bool false, .slice none 0 0]) 6 88 Tryz.underlying23 HI.out HZ0.out HZ1.out HZ2.out rfl (by decide) _ 0 [] rfl (World.ownsRow_nil _ _ _ _) ad len cap news rfl HN.out ?c1 HO.out ?c3 ?c4 ?c5 ?_)
    case c1 => exact HC.out
    case c3 => unfold maxLen; omega
    case c4 => omega
    case c5 => exact Nat.le_refl _
    intro v' w2 hown' hgrow _ _
    have HG := Lib.hid (Below.grown (Below.refl w.heap.size w) hgrow (Nat.le_refl _) (fun g hg => by cases hg))
    have HW := Lib.hid hown'
    clear hown' hgrow
    go_wp2
    go_ret
    exact ⟨HG.out, _, rfl, by simpa using HW.out⟩
end Go.Proofs.YteepfpmeijnkbaaGreatDoor
