/- The contracts of codec's getEach and getRow of numbers and actions, and of its reader's act. -/
import Derived.Test.YtkdgcdcakioajaaGreatDoorKrd
import Derived.Test.YtkdgcdcakioajaaGreatDoorEstepl
import Derived.Laws.ResultCell
namespace Go.Proofs.YtkdgcdcakioajaaGreatDoor
open Go.ChangeShapes Go.WideShapes Go.ChangeAt Go.RowKit
set_option linter.unusedVariables false

theorem enters27 : Enters 27 := enters_of Tryz.func27 (by kernel_rfl) rfl
theorem enters60 : Enters 60 := enters_of Tryz.func60 (by kernel_rfl) rfl
theorem Tryz.info60 : (Tryz.prog.info? 60).map (fun i => (i.zero, i.size, i.bytes)) = some (some (.agg #[.int .i64 0, .int .i64 0, .int .i64 0, .string ⟨#[]⟩]), 4, 40) := by kernel_rfl
theorem new_row (w : World) (cs : List Value) (t : TypeId) : ∀ j u, cs[j]? = some u → (w.alloc (.cells cs.toArray t)).cell? ((⟨w.heap.size, 0, none⟩ : Addr).add j) = some u := by
  intro j u hj
  have ha : (⟨w.heap.size, 0, none⟩ : Addr).add j = ⟨w.heap.size, j, none⟩ := by unfold Addr.add; split <;> simp_all
  rw [ha, (Blk.new w t cs.toArray).cell j]
  simpa using hj
def acCells (a : Ac) : List Value := [.int .i64 a.kind, .int .i64 a.n, .int .i64 a.m, .string a.expr]
theorem ac_one (a : Ac) : ∀ u ∈ acCells a, u.oneCell' = true := by
  intro u hu
  simp only [acCells, List.mem_cons, List.mem_nil_iff, or_false] at hu
  rcases hu with rfl | rfl | rfl | rfl <;> rfl
def acAgg (a : Ac) : Value := .agg #[.int .i64 a.kind, .int .i64 a.n, .int .i64 a.m, .string a.expr]
def noNest {ρ : Type} (W : World) (r : ρ) : Prop := True
theorem own_grown {w w1 : World} {B : Nat} {e : TypeId} {sz n g : Nat} {v : Value} {xs : List Value} (h : w.ownsRow B e sz v n xs) (hg : w.grownBy w1 (some g)) (hB : g < B) : w1.ownsRow B e sz v n xs :=
  h.kept hg (by
    by_cases hv : v.ownBlock = none
    · exact .inl hv
    · exact .inr fun hc => by have := (h.lt g hc).1; omega)
theorem RdAt.lt {g : Nat} {vin : Value} {w : World} {s : RS} (h : RdAt g vin w s) : g < w.heap.size := Blk.lt h
set_option maxHeartbeats 1000000 in
set_option maxRecDepth 100000 in
theorem eachInt_any {W0 : World} {vin : Value} {l : List UInt8} {g : Nat} (hC : RCtx W0 vin l g) {p : RS → Int × RS} (hF : GReads (fun x : Int => Value.int .i64 x) (fun x : Int => x) noNest l g vin W0 p 27 #[.pointer (some ⟨g, 0, none⟩)]) (hp : ∀ s : RS, s.1 ≤ l.length → (p s).2.1 ≤ l.length) (n : Nat) (hn : n ≤ 1000) (s : RS) (w : World) (hb : Below W0.heap.size W0 w) (hS : RdAt g vin w s) (hk : s.1 ≤ l.length) :
    Calls Tryz.prog 77 #[.int .i64 (n : Int), .func (.func 27) #[.pointer (some ⟨g, 0, none⟩)] #[]] w (GPost (fun x : Value × List Int => x.1) (fun x => x.2) (fun W x => RowsAt 1 IntAt W x.1 x.2) g vin (eachP p n s) w) := by
  obtain ⟨i0, hi, hz0, hz1, hz2⟩ := info_parts Tryz.info3
  have HI := Lib.hid hi
  have HZ0 := Lib.hid hz0
  have HZ1 := Lib.hid hz1
  have HZ2 := Lib.hid hz2
  clear hi hz0 hz1 hz2
  have hE := enters27
  unfold Enters at hE
  have HF := Lib.hid hF
  have HP := Lib.hid hp
  have HST := Lib.hid (EachRel.start (cells := (fun x : Int => [Value.int .i64 x])) (val := (fun x : Int => x)) (N := noNest) (e := 3) (sz := 1) (l := l) (p := p) (n := n) hS hk)
  have HB := Lib.hid hb
  have hgw := hS.lt
  generalize eachP p n s = R at *
  clear hF hp hb hS
  go_enter Tryz.func77, Tryz.ntmps77
  go_wp2_with fail
  go_loopw [5, 7] (fun v i wr => ∃ (k : Nat) (rows : List Int) (s1 : RS), k ≤ n ∧ i = .int .i64 (k : Int) ∧ Hid (EachRel (fun x : Int => [Value.int .i64 x]) (fun x : Int => x) noNest 3 1 l p g vin w n R k v wr rows s1)) (fun _ i _ => n - (intOf i).toNat)
  case atStart => exact ⟨0, [], s, Nat.zero_le _, rfl, HST⟩
  case round =>
    obtain ⟨k, rows, s1, hkn, rfl, hrel⟩ := hrel
    obtain ⟨wo, rfl⟩ : ∃ wo : World, wo = wr := ⟨_, rfl⟩
    by_cases hlt : k < n
    · go_wp2_with fail
      refine (HF.out s1 wo (grown_below HB.out hC.le hrel.out.grown) hrel.out.rd hrel.out.le).mono ?_
      rintro e w1 ⟨r, rfl, hv, hn1, hg1, hr1⟩
      have hws := hg1.size
      have hwo := hrel.out.grown.size
      have HOWN := Lib.hid (own_grown hrel.out.own hg1 hgw)
      have HV := Lib.hid hv
      have HN1 := Lib.hid hn1
      have HG1 := Lib.hid hg1
      have HR1 := Lib.hid hr1

      clear hv hn1 hg1 hr1
      go_wp2_with (at_builtin; refine wpList_append_own_at _ rfl _ _ 37 rfl w.heap.size 3 i0 (.int .i64 0) 1 8 Tryz.underlying37 HI.out HZ0.out HZ1.out HZ2.out rfl (by decide) _ _ _ rfl (HOWN.out.alloc _) ⟨w1.heap.size, 0, none⟩ 1 1 ([Value.int .i64 r]) rfl rfl ?c1 ?c2 ?c3 ?c4 ?c5 ?_)
      case c1 => first | exact new_row _ _ _ | exact fun j u h => h
      case c2 => exact int_one _
      case c3 => unfold maxLen; omega
      case c4 => omega
      case c5 => (try simp); omega
      intro v' w2 hown' hgrow _ hrow
      have HNX := Lib.hid (hrel.out.next hlt (fun _ _ _ _ _ => trivial) (by omega) (HP.out s1) HV.out HN1.out HG1.out HR1.out hown' hgrow (by simpa using hrow))
      clear hown' hgrow hrow
      go_wp2_with fail
      go_roundw
      case rel => exact ⟨k + 1, _, _, by omega, by go_num, HNX⟩
      case measure => simp [intOf]; omega
    · obtain rfl : k = n := by omega
      go_wp2_with fail
      go_ret
      exact hrel.out.done (fun _ => rfl) (fun _ _ _ _ _ => trivial) (fun W r b o _ h => by have := h 0 _ rfl; exact this)
set_option maxHeartbeats 1000000 in
set_option maxRecDepth 100000 in
theorem eachAct_any {W0 : World} {vin : Value} {l : List UInt8} {g : Nat} (hC : RCtx W0 vin l g) {p : RS → Ac × RS} (hF : GReads acAgg (fun x : Ac => x) noNest l g vin W0 p 60 #[.pointer (some ⟨g, 0, none⟩)]) (hp : ∀ s : RS, s.1 ≤ l.length → (p s).2.1 ≤ l.length) (n : Nat) (hn : n ≤ 1000) (s : RS) (w : World) (hb : Below W0.heap.size W0 w) (hS : RdAt g vin w s) (hk : s.1 ≤ l.length) :
    Calls Tryz.prog 78 #[.int .i64 (n : Int), .func (.func 60) #[.pointer (some ⟨g, 0, none⟩)] #[]] w (GPost (fun x : Value × List Ac => x.1) (fun x => x.2) (fun W x => RowsAt 4 AcAt W x.1 x.2) g vin (eachP p n s) w) := by
  obtain ⟨i0, hi, hz0, hz1, hz2⟩ := info_parts Tryz.info60
  have HI := Lib.hid hi
  have HZ0 := Lib.hid hz0
  have HZ1 := Lib.hid hz1
  have HZ2 := Lib.hid hz2
  clear hi hz0 hz1 hz2
  have hE := enters60
  unfold Enters at hE
  have HF := Lib.hid hF
  have HP := Lib.hid hp
  have HST := Lib.hid (EachRel.start (cells := acCells) (val := (fun x : Ac => x)) (N := noNest) (e := 60) (sz := 4) (l := l) (p := p) (n := n) hS hk)
  have HB := Lib.hid hb
  have hgw := hS.lt
  generalize eachP p n s = R at *
  clear hF hp hb hS
  go_enter Tryz.func78, Tryz.ntmps78
  go_wp2_with fail
  go_loopw [5, 7] (fun v i wr => ∃ (k : Nat) (rows : List Ac) (s1 : RS), k ≤ n ∧ i = .int .i64 (k : Int) ∧ Hid (EachRel acCells (fun x : Ac => x) noNest 60 4 l p g vin w n R k v wr rows s1)) (fun _ i _ => n - (intOf i).toNat)
  case atStart => exact ⟨0, [], s, Nat.zero_le _, rfl, HST⟩
  case round =>
    obtain ⟨k, rows, s1, hkn, rfl, hrel⟩ := hrel
    obtain ⟨wo, rfl⟩ : ∃ wo : World, wo = wr := ⟨_, rfl⟩
    by_cases hlt : k < n
    · go_wp2_with fail
      refine (HF.out s1 wo (grown_below HB.out hC.le hrel.out.grown) hrel.out.rd hrel.out.le).mono ?_
      rintro e w1 ⟨r, rfl, hv, hn1, hg1, hr1⟩
      have hws := hg1.size
      have hwo := hrel.out.grown.size
      have HOWN := Lib.hid (own_grown hrel.out.own hg1 hgw)
      have HV := Lib.hid hv
      have HN1 := Lib.hid hn1
      have HG1 := Lib.hid hg1
      have HR1 := Lib.hid hr1
      unfold acAgg
      clear hv hn1 hg1 hr1
      go_wp2_with (at_builtin; refine wpList_append_own_at _ rfl _ _ 38 rfl w.heap.size 60 i0 (.agg #[.int .i64 0, .int .i64 0, .int .i64 0, .string ⟨#[]⟩]) 4 40 Tryz.underlying38 HI.out HZ0.out HZ1.out HZ2.out rfl (by decide) _ _ _ rfl (HOWN.out.alloc _) ⟨w1.heap.size, 0, none⟩ 1 1 (acCells r) rfl rfl ?c1 ?c2 ?c3 ?c4 ?c5 ?_)
      case c1 => first | exact new_row _ _ _ | exact fun j u h => h
      case c2 => exact ac_one _
      case c3 => unfold maxLen; omega
      case c4 => omega
      case c5 => (try simp); omega
      intro v' w2 hown' hgrow _ hrow
      have HNX := Lib.hid (hrel.out.next hlt (fun _ _ _ _ _ => trivial) (by omega) (HP.out s1) HV.out HN1.out HG1.out HR1.out hown' hgrow (by simpa using hrow))
      clear hown' hgrow hrow
      go_wp2_with fail
      go_roundw
      case rel => exact ⟨k + 1, _, _, by omega, by go_num, HNX⟩
      case measure => simp [intOf]; omega
    · obtain rfl : k = n := by omega
      go_wp2_with fail
      go_ret
      exact hrel.out.done (fun _ => rfl) (fun _ _ _ _ _ => trivial) (fun W r b o _ h => ⟨h 0 _ rfl, h 1 _ rfl, h 2 _ rfl, h 3 _ rfl⟩)
theorem intAt_sub {w w' : World} (hs : Sub w w') : ∀ b o x, IntAt w b o x → IntAt w' b o x := fun _ _ _ h => hs.2 _ _ h
theorem acAt_sub {w w' : World} (hs : Sub w w') : ∀ b o x, AcAt w b o x → AcAt w' b o x := fun _ _ _ h => ⟨hs.2 _ _ h.1, hs.2 _ _ h.2.1, hs.2 _ _ h.2.2.1, hs.2 _ _ h.2.2.2⟩
set_option maxHeartbeats 1000000 in
set_option maxRecDepth 100000 in
theorem rowInt_any {W0 : World} {vin : Value} {l : List UInt8} {g : Nat} (hC : RCtx W0 vin l g) {p : RS → Int × RS} (hF : GReads (fun x : Int => Value.int .i64 x) (fun x : Int => x) noNest l g vin W0 p 27 #[.pointer (some ⟨g, 0, none⟩)]) (hp : ∀ s : RS, s.1 ≤ l.length → (p s).2.1 ≤ l.length) (most : Int) (h0 : 0 ≤ most) (h1 : most ≤ 1000) (s : RS) (w : World) (hb : Below W0.heap.size W0 w) (hS : RdAt g vin w s) (hk : s.1 ≤ l.length) :
    Calls Tryz.prog 58 #[.pointer (some ⟨g, 0, none⟩), .int .i64 most, .func (.func 27) #[.pointer (some ⟨g, 0, none⟩)] #[]] w (GPost (fun x : Value × List Int => x.1) (fun x => x.2) (fun W x => RowsAt 1 IntAt W x.1 x.2) g vin (rowP l most p s) w) := by
  have HU := Lib.hid (count_any hC most s w hb hS hk h0 h1)
  have hle := ((upTo_cod l most 3 (by omega) (by omega)).le s hk).2
  have hrg := upTo_range l most 3 h0 s
  have hR : rowP l most p s = eachP p (upToP l most 3 s).1.toNat (upToP l most 3 s).2 := rfl
  rw [hR]
  generalize upToP l most 3 s = U at *
  obtain ⟨x, s1⟩ := U
  simp only at hle hrg
  obtain ⟨n, rfl⟩ : ∃ n : Nat, x = (n : Int) := ⟨x.toNat, by omega⟩
  have HN := Lib.hid (fun w1 (hg1 : w.grownBy w1 (some g)) (hr : RdAt g vin w1 s1) => eachInt_any hC hF hp n (by omega) s1 w1 (grown_below hb hC.le hg1) hr hle)
  rw [show (((n : Nat) : Int)).toNat = n by omega]
  clear hF hp hb hS hR
  go_enter Tryz.func58, Tryz.ntmps58
  go_wp2_with fail
  refine HU.out.mono ?_
  rintro e w1 ⟨rfl, hg1, hr1⟩
  have HG1 := Lib.hid hg1
  have HR1 := Lib.hid hr1
  clear hg1 hr1
  go_wp2_with fail
  refine (HN.out w1 HG1.out HR1.out).mono ?_
  rintro e w2 ⟨⟨v, xs⟩, rfl, hv, hn1, hg2, hr2⟩
  have HX := Lib.hid hn1
  have HV := Lib.hid hv
  have HG2 := Lib.hid hg2
  have HR2 := Lib.hid hr2
  clear hv hn1 hg2 hr2
  go_wp2_with fail
  go_ret
  exact ⟨(v, xs), rfl, HV.out, RowsAt.sub (intAt_sub (keep_sub (Nat.le_refl _) fun i _ hi => ⟨from_true.2 (Nat.le_trans HG1.out.size (from_true.1 hi)), rfl⟩)) (by rw [keep_size, keep_size]; exact Nat.le_refl _) HX.out, grown_trans HG1.out HG2.out, HR2.out⟩
set_option maxHeartbeats 1000000 in
set_option maxRecDepth 100000 in
theorem rowAct_any {W0 : World} {vin : Value} {l : List UInt8} {g : Nat} (hC : RCtx W0 vin l g) {p : RS → Ac × RS} (hF : GReads acAgg (fun x : Ac => x) noNest l g vin W0 p 60 #[.pointer (some ⟨g, 0, none⟩)]) (hp : ∀ s : RS, s.1 ≤ l.length → (p s).2.1 ≤ l.length) (most : Int) (h0 : 0 ≤ most) (h1 : most ≤ 1000) (s : RS) (w : World) (hb : Below W0.heap.size W0 w) (hS : RdAt g vin w s) (hk : s.1 ≤ l.length) :
    Calls Tryz.prog 59 #[.pointer (some ⟨g, 0, none⟩), .int .i64 most, .func (.func 60) #[.pointer (some ⟨g, 0, none⟩)] #[]] w (GPost (fun x : Value × List Ac => x.1) (fun x => x.2) (fun W x => RowsAt 4 AcAt W x.1 x.2) g vin (rowP l most p s) w) := by
  have HU := Lib.hid (count_any hC most s w hb hS hk h0 h1)
  have hle := ((upTo_cod l most 3 (by omega) (by omega)).le s hk).2
  have hrg := upTo_range l most 3 h0 s
  have hR : rowP l most p s = eachP p (upToP l most 3 s).1.toNat (upToP l most 3 s).2 := rfl
  rw [hR]
  generalize upToP l most 3 s = U at *
  obtain ⟨x, s1⟩ := U
  simp only at hle hrg
  obtain ⟨n, rfl⟩ : ∃ n : Nat, x = (n : Int) := ⟨x.toNat, by omega⟩
  have HN := Lib.hid (fun w1 (hg1 : w.grownBy w1 (some g)) (hr : RdAt g vin w1 s1) => eachAct_any hC hF hp n (by omega) s1 w1 (grown_below hb hC.le hg1) hr hle)
  rw [show (((n : Nat) : Int)).toNat = n by omega]
  clear hF hp hb hS hR
  go_enter Tryz.func59, Tryz.ntmps59
  go_wp2_with fail
  refine HU.out.mono ?_
  rintro e w1 ⟨rfl, hg1, hr1⟩
  have HG1 := Lib.hid hg1
  have HR1 := Lib.hid hr1
  clear hg1 hr1
  go_wp2_with fail
  refine (HN.out w1 HG1.out HR1.out).mono ?_
  rintro e w2 ⟨⟨v, xs⟩, rfl, hv, hn1, hg2, hr2⟩
  have HX := Lib.hid hn1
  have HV := Lib.hid hv
  have HG2 := Lib.hid hg2
  have HR2 := Lib.hid hr2
  clear hv hn1 hg2 hr2
  go_wp2_with fail
  go_ret
  exact ⟨(v, xs), rfl, HV.out, RowsAt.sub (acAt_sub (keep_sub (Nat.le_refl _) fun i _ hi => ⟨from_true.2 (Nat.le_trans HG1.out.size (from_true.1 hi)), rfl⟩)) (by rw [keep_size, keep_size]; exact Nat.le_refl _) HX.out, grown_trans HG1.out HG2.out, HR2.out⟩
/-- numbers are read so -/
theorem number_reads {W0 : World} {vin : Value} {l : List UInt8} {g : Nat} (hC : RCtx W0 vin l g) : GReads (fun x : Int => Value.int .i64 x) (fun x : Int => x) noNest l g vin W0 (numP l) 27 #[.pointer (some ⟨g, 0, none⟩)] :=
  fun s w hb hS hk => (number_any hC s w hb hS hk).mono fun e w' h => ⟨(numP l s).1, h.1, rfl, trivial, h.2.1, h.2.2⟩
theorem num_le {l : List UInt8} (s : RS) (h : s.1 ≤ l.length) : (numP l s).2.1 ≤ l.length := ((num_cod l).le s h).2
/-- what a function returns whose one result lies in a block of its own -/
theorem results_blk {fn : Func} {r : Tmp} {ty : TypeId} {cs : Array Value} (hr : fn.results = #[.cell r ty]) (tmps : Array Value) (w : World) (g : Nat) (hp : tmps.getD r undef = .pointer (some ⟨g, 0, none⟩)) (hl : (loadVar ty ⟨g, 0, none⟩).run Tryz.prog w = .ok (.agg cs) w) :
    (results fn tmps).run Tryz.prog w = .ok (.agg cs) w := by
  simp at hp
  simp [results, hr, hp, asAddr, hl]
theorem load60 {w : World} {g : Nat} {a b c d : Value} (hB : Blk w g 60 #[a, b, c, d]) : (loadVar 60 ⟨g, 0, none⟩).run Tryz.prog w = .ok (.agg #[a, b, c, d]) w := run_loadVar_row (P := Tryz.prog) w g 60 60 _ (0, 0) _ hB Tryz.underlying60 rfl (by kernel_rfl)
theorem load40 {w : World} {g : Nat} {a b c d e : Value} (hB : Blk w g 40 #[a, b, c, d, e]) : (loadVar 40 ⟨g, 0, none⟩).run Tryz.prog w = .ok (.agg #[a, b, c, d, e]) w := run_loadVar_row (P := Tryz.prog) w g 40 40 _ (0, 0) _ hB Tryz.underlying40 rfl (by kernel_rfl)
theorem load45 {w : World} {g : Nat} {a b c d e f : Value} (hB : Blk w g 45 #[a, b, c, d, e, f]) : (loadVar 45 ⟨g, 0, none⟩).run Tryz.prog w = .ok (.agg #[a, b, c, d, e, f]) w := run_loadVar_row (P := Tryz.prog) w g 45 45 _ (0, 0) _ hB Tryz.underlying45 rfl (by kernel_rfl)
theorem load25 {w : World} {g : Nat} {a b c : Value} (hB : Blk w g 25 #[a, b, c]) : (loadVar 25 ⟨g, 0, none⟩).run Tryz.prog w = .ok (.agg #[a, b, c]) w := run_loadVar_row (P := Tryz.prog) w g 25 25 _ (0, 0) _ hB Tryz.underlying25 rfl (by kernel_rfl)
end Go.Proofs.YtkdgcdcakioajaaGreatDoor
