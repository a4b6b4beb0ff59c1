/- The contracts of codec's getEach of states and transitions, and of its reader's chart and end. -/
import Derived.Test.YtkdgcdcakioajaaGreatDoorKseq
namespace Go.Proofs.YtkdgcdcakioajaaGreatDoor
open Go.ChangeShapes Go.WideShapes Go.ChangeAt Go.RowKit
set_option linter.unusedVariables false

def stCells (r : RawSt) : List Value := [.int .i64 r.1.kind, .int .i64 r.1.par, r.2.1, r.2.2.1, r.2.2.2]
def trCells (r : RawTr) : List Value := [.int .i64 r.1.src, .int .i64 r.1.ev, .string r.1.guard, r.2.1, .bool r.1.inner, r.2.2]
theorem state_reads {W0 : World} {vin : Value} {l : List UInt8} {g : Nat} (hC : RCtx W0 vin l g) : GReads stAgg (fun x : RawSt => x.1) stNest l g vin W0 (stP l) 30 #[.pointer (some ⟨g, 0, none⟩)] :=
  fun s w hb hS hk => state_any hC s w hb hS hk
theorem trans_reads {W0 : World} {vin : Value} {l : List UInt8} {g : Nat} (hC : RCtx W0 vin l g) : GReads trAgg (fun x : RawTr => x.1) trNest l g vin W0 (trP l) 32 #[.pointer (some ⟨g, 0, none⟩)] :=
  fun s w hb hS hk => trans_any hC s w hb hS hk
theorem st_le {l : List UInt8} (s : RS) (h : s.1 ≤ l.length) : (stP l s).2.1 ≤ l.length := ((st_cod l).le s h).2
theorem tr_le {l : List UInt8} (s : RS) (h : s.1 ≤ l.length) : (trP l s).2.1 ≤ l.length := ((tr_cod l).le s h).2
set_option maxHeartbeats 1000000 in
set_option maxRecDepth 100000 in
theorem eachSt_any {W0 : World} {vin : Value} {l : List UInt8} {g : Nat} (hC : RCtx W0 vin l g) {p : RS → St × RS} (hF : GReads stAgg (fun x : RawSt => x.1) stNest l g vin W0 p 30 #[.pointer (some ⟨g, 0, none⟩)]) (hp : ∀ s : RS, s.1 ≤ l.length → (p s).2.1 ≤ l.length) (n : Nat) (hn : n ≤ 1000) (s : RS) (w : World) (hb : Below W0.heap.size W0 w) (hS : RdAt g vin w s) (hk : s.1 ≤ l.length) :
    Calls Tryz.prog 29 #[.int .i64 (n : Int), .func (.func 30) #[.pointer (some ⟨g, 0, none⟩)] #[]] w (GPost (fun x : Value × List St => x.1) (fun x => x.2) (fun W x => RowsAt 5 StAt W x.1 x.2) g vin (eachP p n s) w) := by
  obtain ⟨i0, hi, hz0, hz1, hz2⟩ := info_parts Tryz.infoSt
  have HI := Lib.hid hi
  have HZ0 := Lib.hid hz0
  have HZ1 := Lib.hid hz1
  have HZ2 := Lib.hid hz2
  clear hi hz0 hz1 hz2
  have hE := enters30
  unfold Enters at hE
  have HF := Lib.hid hF
  have HP := Lib.hid hp
  have HST := Lib.hid (EachRel.start (cells := stCells) (val := (fun x : RawSt => x.1)) (N := stNest) (e := 40) (sz := 5) (l := l) (p := p) (n := n) hS hk)
  have HB := Lib.hid hb
  have hgw := hS.lt
  generalize eachP p n s = R at *
  clear hF hp hb hS
  go_enter Tryz.func29, Tryz.ntmps29
  go_wp2_with fail
  go_loopw [5, 7] (fun v i wr => ∃ (k : Nat) (rows : List RawSt) (s1 : RS), k ≤ n ∧ i = .int .i64 (k : Int) ∧ Hid (EachRel stCells (fun x : RawSt => x.1) stNest 40 5 l p g vin w n R k v wr rows s1)) (fun _ i _ => n - (intOf i).toNat)
  case atStart => exact ⟨0, [], s, Nat.zero_le _, rfl, HST⟩
  case round =>
    obtain ⟨k, rows, s1, hkn, rfl, hrel⟩ := hrel
    obtain ⟨wo, rfl⟩ : ∃ wo : World, wo = wr := ⟨_, rfl⟩
    by_cases hlt : k < n
    · go_wp2_with fail
      refine (HF.out s1 wo (grown_below HB.out hC.le hrel.out.grown) hrel.out.rd hrel.out.le).mono ?_
      rintro e w1 ⟨r, rfl, hv, hn1, hg1, hr1⟩
      have hws := hg1.size
      have hwo := hrel.out.grown.size
      have HOWN := Lib.hid (own_grown hrel.out.own hg1 hgw)
      have HV := Lib.hid hv
      have HN1 := Lib.hid hn1
      have HG1 := Lib.hid hg1
      have HR1 := Lib.hid hr1
      obtain ⟨x, vi, ve, vx⟩ := r
      obtain ⟨iA, icap, eA, ecap, xA, xcap, hi1, hi2, hi3⟩ := StHas.slices (show StHas _ vi ve vx x from hn1)
      subst hi1
      subst hi2
      subst hi3
      unfold stAgg
      dsimp only
      clear hv hn1 hg1 hr1
      go_wp2_with (at_builtin; refine wpList_append_own_at _ rfl _ _ 22 rfl w.heap.size 40 i0 (.agg #[.int .i64 0, .int .i64 0, .slice none 0 0, .slice none 0 0, .slice none 0 0]) 5 88 Tryz.underlying22 HI.out HZ0.out HZ1.out HZ2.out rfl (by decide) _ _ _ rfl (HOWN.out.alloc _) ⟨w1.heap.size, 0, none⟩ 1 1 (stCells (x, .slice iA x.ini.length icap, .slice eA x.ent.length ecap, .slice xA x.exi.length xcap)) rfl rfl ?c1 ?c2 ?c3 ?c4 ?c5 ?_)
      case c1 => first | exact new_row _ _ _ | exact fun j u h => h
      case c2 => 
        intro u hu
        simp only [stCells, List.mem_cons, List.mem_nil_iff, or_false] at hu
        rcases hu with rfl | rfl | rfl | rfl | rfl <;> rfl
      case c3 => unfold maxLen; omega
      case c4 => omega
      case c5 => (try simp); omega
      intro v' w2 hown' hgrow _ hrow
      have HNX := Lib.hid (hrel.out.next hlt (fun _ _ _ hs h => StHas.sub h hs) (by omega) (HP.out s1) HV.out HN1.out HG1.out HR1.out hown' hgrow (by simpa using hrow))
      clear hown' hgrow hrow
      go_wp2_with fail
      go_roundw
      case rel => exact ⟨k + 1, _, _, by omega, by go_num, HNX⟩
      case measure => simp [intOf]; omega
    · obtain rfl : k = n := by omega
      go_wp2_with fail
      go_ret
      exact hrel.out.done (fun _ => rfl) (fun _ _ _ hs h => StHas.sub h hs) (fun W r b o hN h => ⟨r.2.1, r.2.2.1, r.2.2.2, ⟨h 0 _ rfl, h 1 _ rfl, h 2 _ rfl, h 3 _ rfl, h 4 _ rfl⟩, hN⟩)
set_option maxHeartbeats 1000000 in
set_option maxRecDepth 100000 in
theorem eachTr_any {W0 : World} {vin : Value} {l : List UInt8} {g : Nat} (hC : RCtx W0 vin l g) {p : RS → Tr × RS} (hF : GReads trAgg (fun x : RawTr => x.1) trNest l g vin W0 p 32 #[.pointer (some ⟨g, 0, none⟩)]) (hp : ∀ s : RS, s.1 ≤ l.length → (p s).2.1 ≤ l.length) (n : Nat) (hn : n ≤ 1000) (s : RS) (w : World) (hb : Below W0.heap.size W0 w) (hS : RdAt g vin w s) (hk : s.1 ≤ l.length) :
    Calls Tryz.prog 31 #[.int .i64 (n : Int), .func (.func 32) #[.pointer (some ⟨g, 0, none⟩)] #[]] w (GPost (fun x : Value × List Tr => x.1) (fun x => x.2) (fun W x => RowsAt 6 TrAt W x.1 x.2) g vin (eachP p n s) w) := by
  obtain ⟨i0, hi, hz0, hz1, hz2⟩ := info_parts Tryz.infoTr
  have HI := Lib.hid hi
  have HZ0 := Lib.hid hz0
  have HZ1 := Lib.hid hz1
  have HZ2 := Lib.hid hz2
  clear hi hz0 hz1 hz2
  have hE := enters32
  unfold Enters at hE
  have HF := Lib.hid hF
  have HP := Lib.hid hp
  have HST := Lib.hid (EachRel.start (cells := trCells) (val := (fun x : RawTr => x.1)) (N := trNest) (e := 45) (sz := 6) (l := l) (p := p) (n := n) hS hk)
  have HB := Lib.hid hb
  have hgw := hS.lt
  generalize eachP p n s = R at *
  clear hF hp hb hS
  go_enter Tryz.func31, Tryz.ntmps31
  go_wp2_with fail
  go_loopw [5, 7] (fun v i wr => ∃ (k : Nat) (rows : List RawTr) (s1 : RS), k ≤ n ∧ i = .int .i64 (k : Int) ∧ Hid (EachRel trCells (fun x : RawTr => x.1) trNest 45 6 l p g vin w n R k v wr rows s1)) (fun _ i _ => n - (intOf i).toNat)
  case atStart => exact ⟨0, [], s, Nat.zero_le _, rfl, HST⟩
  case round =>
    obtain ⟨k, rows, s1, hkn, rfl, hrel⟩ := hrel
    obtain ⟨wo, rfl⟩ : ∃ wo : World, wo = wr := ⟨_, rfl⟩
    by_cases hlt : k < n
    · go_wp2_with fail
      refine (HF.out s1 wo (grown_below HB.out hC.le hrel.out.grown) hrel.out.rd hrel.out.le).mono ?_
      rintro e w1 ⟨r, rfl, hv, hn1, hg1, hr1⟩
      have hws := hg1.size
      have hwo := hrel.out.grown.size
      have HOWN := Lib.hid (own_grown hrel.out.own hg1 hgw)
      have HV := Lib.hid hv
      have HN1 := Lib.hid hn1
      have HG1 := Lib.hid hg1
      have HR1 := Lib.hid hr1
      obtain ⟨x, vt, va⟩ := r
      obtain ⟨tA, tcap, aA, acap, hi1, hi2⟩ := TrHas.slices (show TrHas _ vt va x from hn1)
      subst hi1
      subst hi2
      unfold trAgg
      dsimp only
      clear hv hn1 hg1 hr1
      go_wp2_with (at_builtin; refine wpList_append_own_at _ rfl _ _ 23 rfl w.heap.size 45 i0 (.agg #[.int .i64 0, .int .i64 0, .string ⟨#[]⟩, .slice none 0 0, .bool false, .slice none 0 0]) 6 88 Tryz.underlying23 HI.out HZ0.out HZ1.out HZ2.out rfl (by decide) _ _ _ rfl (HOWN.out.alloc _) ⟨w1.heap.size, 0, none⟩ 1 1 (trCells (x, .slice tA x.tgts.length tcap, .slice aA x.acts.length acap)) rfl rfl ?c1 ?c2 ?c3 ?c4 ?c5 ?_)
      case c1 => first | exact new_row _ _ _ | exact fun j u h => h
      case c2 => 
        intro u hu
        simp only [trCells, List.mem_cons, List.mem_nil_iff, or_false] at hu
        rcases hu with rfl | rfl | rfl | rfl | rfl | rfl <;> rfl
      case c3 => unfold maxLen; omega
      case c4 => omega
      case c5 => (try simp); omega
      intro v' w2 hown' hgrow _ hrow
      have HNX := Lib.hid (hrel.out.next hlt (fun _ _ _ hs h => TrHas.sub h hs) (by omega) (HP.out s1) HV.out HN1.out HG1.out HR1.out hown' hgrow (by simpa using hrow))
      clear hown' hgrow hrow
      go_wp2_with fail
      go_roundw
      case rel => exact ⟨k + 1, _, _, by omega, by go_num, HNX⟩
      case measure => simp [intOf]; omega
    · obtain rfl : k = n := by omega
      go_wp2_with fail
      go_ret
      exact hrel.out.done (fun _ => rfl) (fun _ _ _ hs h => TrHas.sub h hs) (fun W r b o hN h => ⟨r.2.1, r.2.2, ⟨h 0 _ rfl, h 1 _ rfl, h 2 _ rfl, h 3 _ rfl, h 4 _ rfl, h 5 _ rfl⟩, hN⟩)
/-- what the reader's end tells -/
def EPost (l : List UInt8) (g : Nat) (vin : Value) (s : RS) (w : World) (e : Ending) (w' : World) : Prop := e = .returned (.tuple #[]) ∧ w.grownBy w' (some g) ∧ RdAt g vin w' (endP l s)
set_option maxHeartbeats 400000 in
set_option maxRecDepth 100000 in
theorem end_any {W0 : World} {vin : Value} {l : List UInt8} {g : Nat} (hC : RCtx W0 vin l g) (s : RS) (w : World) (hS : RdAt g vin w s) (hk : s.1 ≤ l.length) :
    Calls Tryz.prog 14 #[.pointer (some ⟨g, 0, none⟩)] w (EPost l g vin s w) := by
  obtain ⟨k, f⟩ := s
  have HS := Lib.hid hS
  have hl := hC.len
  obtain ⟨A, cap, rfl, hcap, _⟩ := hC.bytes
  have hR : endP l (k, f) = endP l (k, f) := rfl
  conv at hR => rhs; unfold endP
  unfold EPost
  generalize endP l (k, f) = R at *
  simp only at hR hk
  unfold RdAt at hS
  obtain ⟨⟨c0, c1, c2⟩, f0, f1, f2⟩ := hS.facts3
  clear hS
  by_cases hf : f = 0
  · subst hf
    by_cases hlt : k < l.length
    · rw [if_pos ⟨rfl, hlt⟩] at hR
      have hz : decide ((k : Int) < (l.length : Int)) = true := by simp; omega
      subst hR
      go_enter Tryz.func14, Tryz.ntmps14
      go_wp2_with fail
      go_quiet (fail)
      go_wp2
      go_end0
      exact ⟨rfl, grown_set (grown_drewN (grown_refl _ _) _) 2 _, Blk.set_ (Blk.drewN HS.out _) 2 _⟩
    · rw [if_neg (fun h => hlt h.2)] at hR
      have hz : decide ((k : Int) < (l.length : Int)) = false := by simp; omega
      subst hR
      go_enter Tryz.func14, Tryz.ntmps14
      go_wp2_with fail
      go_quiet (fail)
      go_wp2
      go_end0
      exact ⟨rfl, grown_drewN (grown_refl _ _) _, Blk.drewN HS.out _⟩
  · rw [if_neg (fun h => hf h.1)] at hR
    have hz : (f == 0) = false := by simpa using hf
    subst hR
    go_enter Tryz.func14, Tryz.ntmps14
    go_wp2_with fail
    go_quiet (fail)
    go_wp2
    go_end0
    exact ⟨rfl, grown_drewN (grown_refl _ _) _, Blk.drewN HS.out _⟩
abbrev zCh : Array Value := #[.int .i64 0, .slice none 0 0, .slice none 0 0]
abbrev RawCh := Ch × Value × Value
def chAgg (r : RawCh) : Value := .agg #[.int .i64 r.1.vars, r.2.1, r.2.2]
def chNest (W : World) (r : RawCh) : Prop := ChHas W r.2.1 r.2.2 r.1
theorem chP_eq (l : List UInt8) (s : RS) : chP l s = (⟨(numP l s).1, (eachP (stP l) (upToP l 24 3 (numP l s).2).1.toNat (upToP l 40 3 (upToP l 24 3 (numP l s).2).2).2).1, (eachP (trP l) (upToP l 40 3 (upToP l 24 3 (numP l s).2).2).1.toNat (eachP (stP l) (upToP l 24 3 (numP l s).2).1.toNat (upToP l 40 3 (upToP l 24 3 (numP l s).2).2).2).2).1⟩, (eachP (trP l) (upToP l 40 3 (upToP l 24 3 (numP l s).2).2).1.toNat (eachP (stP l) (upToP l 24 3 (numP l s).2).1.toNat (upToP l 40 3 (upToP l 24 3 (numP l s).2).2).2).2).2) := by simp only [chP, nSt, nTr, s1, s2, s3]
set_option maxHeartbeats 2000000 in
set_option maxRecDepth 100000 in
theorem chart_any {W0 : World} {vin : Value} {l : List UInt8} {g : Nat} (hC : RCtx W0 vin l g) (s : RS) (w : World) (hb : Below W0.heap.size W0 w) (hS : RdAt g vin w s) (hk : s.1 ≤ l.length) :
    Calls Tryz.prog 13 #[.pointer (some ⟨g, 0, none⟩)] w (GPost chAgg (fun x => x.1) chNest g vin (chP l s) w) := by
  have hgw := hS.lt
  have HR := Lib.hid (chP_eq l s)
  have HBL := Lib.hid (fun w1 (hg1 : w.grownBy w1 (some g)) => grown_below hb hC.le hg1)
  have HQ := Lib.hid (Blk.new w 25 zCh)
  have HS := Lib.hid (Blk.alloc hS (.cells zCh 25))
  have HC := Lib.hid hC
  have k1 := num_le s hk
  have k2 := ((upTo_cod l 24 3 (by omega) (by omega)).le _ k1).2
  have k3 := ((upTo_cod l 40 3 (by omega) (by omega)).le _ k2).2
  have n2 := upTo_range l 24 3 (by omega) (numP l s).2
  have n3 := upTo_range l 40 3 (by omega) (upToP l 24 3 (numP l s).2).2
  generalize chP l s = R at *
  have HN := Lib.hid (fun w1 (hg1 : w.grownBy w1 (some g)) (hr : RdAt g vin w1 s) => number_any HC.out s w1 (HBL.out _ hg1) hr hk)
  generalize numP l s = U1 at *
  have HM := Lib.hid (fun w1 (hg1 : w.grownBy w1 (some g)) (hr : RdAt g vin w1 U1.2) => count_any HC.out 24 U1.2 w1 (HBL.out _ hg1) hr k1 (by omega) (by omega))
  generalize upToP l 24 3 U1.2 = U2 at *
  have HT := Lib.hid (fun w1 (hg1 : w.grownBy w1 (some g)) (hr : RdAt g vin w1 U2.2) => count_any HC.out 40 U2.2 w1 (HBL.out _ hg1) hr k2 (by omega) (by omega))
  generalize upToP l 40 3 U2.2 = U3 at *
  obtain ⟨x1, s1⟩ := U1
  obtain ⟨x2, s2⟩ := U2
  obtain ⟨x3, s3⟩ := U3
  dsimp only at *
  obtain ⟨m, rfl⟩ : ∃ m : Nat, x2 = (m : Int) := ⟨x2.toNat, by omega⟩
  obtain ⟨n, rfl⟩ : ∃ n : Nat, x3 = (n : Int) := ⟨x3.toNat, by omega⟩
  rw [show (((m : Nat) : Int)).toNat = m by omega, show (((n : Nat) : Int)).toNat = n by omega] at HR
  have k4 := (((st_cod l).eachP m).le s3 k3).2
  have HE := Lib.hid (fun w1 (hg1 : w.grownBy w1 (some g)) (hr : RdAt g vin w1 s3) => eachSt_any HC.out (state_reads HC.out) st_le m (by omega) s3 w1 (HBL.out _ hg1) hr k3)
  generalize eachP (stP l) m s3 = U4 at *
  obtain ⟨ss, s4⟩ := U4
  dsimp only at *
  have HF := Lib.hid (fun w1 (hg1 : w.grownBy w1 (some g)) (hr : RdAt g vin w1 s4) => eachTr_any HC.out (trans_reads HC.out) tr_le n (by omega) s4 w1 (HBL.out _ hg1) hr k4)
  generalize eachP (trP l) n s4 = U5 at *
  obtain ⟨tt, s5⟩ := U5
  dsimp only at *
  have hE30 := enters30
  have hE32 := enters32
  unfold Enters at hE30 hE32
  clear hb hS hC k1 k2 k3 k4
  go_enter Tryz.func13, Tryz.ntmps13
  go_wp2_with fail
  refine (HN.out _ (grown_alloc w _ _) HS.out).mono ?_
  rintro e w1 ⟨rfl, h1, h2⟩
  have G1 := Lib.hid (grown_trans (grown_alloc w _ _) h1)
  have R1 := Lib.hid (Blk.alloc h2 (.cells #[.int .i64 x1, .slice none 0 0, .slice none 0 0] 25))
  have Q1 := Lib.hid (Blk.alloc (blk_grown HQ.out h1 (by omega)) (.cells #[.int .i64 x1, .slice none 0 0, .slice none 0 0] 25))
  have C1 := Lib.hid (Blk.new w1 25 #[.int .i64 x1, .slice none 0 0, .slice none 0 0])
  have A1 := Lib.hid (grown_trans G1.out (grown_alloc w1 (.cells #[.int .i64 x1, .slice none 0 0, .slice none 0 0] 25) _))
  have z1 := h1.size
  have z0 : (w.alloc (.cells zCh 25)).heap.size = w.heap.size + 1 := by simp
  clear h1 h2
  go_wp2_with fail
  refine (HM.out _ A1.out R1.out).mono ?_
  rintro e w2 ⟨rfl, h1, h2⟩
  have G2 := Lib.hid (grown_trans A1.out h1)
  have R2 := Lib.hid h2
  have Q2 := Lib.hid (blk_grown Q1.out h1 (by omega))
  have C2 := Lib.hid (blk_grown C1.out h1 (by omega))
  have z2 := h1.size
  have z1' : (w1.alloc (.cells #[.int .i64 x1, .slice none 0 0, .slice none 0 0] 25)).heap.size = w1.heap.size + 1 := by simp
  clear h1 h2
  go_wp2_with fail
  refine (HT.out _ G2.out R2.out).mono ?_
  rintro e w3 ⟨rfl, h1, h2⟩
  have G3 := Lib.hid (grown_trans G2.out h1)
  have R3 := Lib.hid h2
  have Q3 := Lib.hid (blk_grown Q2.out h1 (by omega))
  have C3 := Lib.hid (blk_grown C2.out h1 (by omega))
  have z3 := h1.size
  clear h1 h2
  go_wp2_with fail
  refine (HE.out _ G3.out R3.out).mono ?_
  rintro e w4 ⟨⟨v4, y4⟩, rfl, hv4, hn4, h1, h2⟩
  dsimp only at hv4 hn4 ⊢
  subst hv4
  obtain ⟨A4, cap4, hs4, _⟩ := RowsAt.slice hn4
  subst hs4
  have N4 := Lib.hid hn4
  have D4 := Lib.hid h1
  have G4 := Lib.hid (grown_trans G3.out h1)
  have Q4 := Lib.hid (blk_grown Q3.out h1 (by omega))
  have hc4 := blk_grown C3.out h1 (by omega)
  have C4 := Lib.hid (hc4.set_ 1 (.slice A4 y4.length cap4))
  have z4 := h1.size
  obtain ⟨⟨c0, c1, c2⟩, f0, f1, f2⟩ := hc4.facts3
  have R4 := Lib.hid (rd_setq h2 (by omega : g ≠ w1.heap.size) 1 (.slice A4 y4.length cap4))
  have B4 := Lib.hid (grown_setq G4.out (by omega : w.heap.size ≤ w1.heap.size) 1 (.slice A4 y4.length cap4))
  have Q4' : Hid (Blk (w4.setCell ⟨w1.heap.size, 1, none⟩ (.slice A4 y4.length cap4)) w.heap.size 25 zCh) := Lib.hid ((heap_setq (by omega : w.heap.size ≠ w1.heap.size)).trans Q4.out)
  have z4' : (w4.setCell ⟨w1.heap.size, 1, none⟩ (.slice A4 y4.length cap4)).heap.size = w4.heap.size := by simp
  clear h1 h2 hn4 hc4
  go_wp2_with fail
  clear c0 c1 c2 f0 f1 f2
  refine (HF.out _ B4.out R4.out).mono ?_
  rintro e w5 ⟨⟨v5, y5⟩, rfl, hv5, hn5, h1, h2⟩
  dsimp only at hv5 hn5 ⊢
  subst hv5
  obtain ⟨A5, cap5, hs5, _⟩ := RowsAt.slice hn5
  subst hs5
  have N5 := Lib.hid hn5
  have D5 := Lib.hid h1
  have G5 := Lib.hid (grown_trans B4.out h1)
  have hq5 := blk_grown Q4'.out h1 (by omega)
  have Q5 : Hid (Blk (w5.setCell ⟨w1.heap.size, 2, none⟩ (.slice A5 y5.length cap5)) w.heap.size 25 zCh) := Lib.hid ((heap_setq (by omega : w.heap.size ≠ w1.heap.size) (w := w5) (j := 2) (u := .slice A5 y5.length cap5)).trans hq5)
  have hc5 := blk_grown C4.out h1 (by omega)
  have z5 := h1.size
  have R5 := Lib.hid (rd_setq h2 (by omega : g ≠ w1.heap.size) 2 (.slice A5 y5.length cap5))
  have B5 := Lib.hid (grown_setq G5.out (by omega : w.heap.size ≤ w1.heap.size) 2 (.slice A5 y5.length cap5))
  obtain ⟨⟨c0, c1, c2⟩, f0, f1, f2⟩ := hc5.facts3
  obtain ⟨⟨d0, d1, d2⟩, e0, e1, e2⟩ := hq5.facts3
  have hne : ¬ w1.heap.size = w.heap.size := by omega
  have hne' : ¬ w.heap.size = w1.heap.size := by omega
  clear h1 h2 hn5 hq5 hc5
  go_wp2_with fail
  refine bodyPost_ret (results_blk rfl _ _ _ rfl (load25 (((Q5.out.set_ 0 _).set_ 1 _).set_ 2 _))) rfl ?_
  rw [HR.out]
  refine ⟨(_, _, _), rfl, rfl, ?_, grown_setq (grown_setq (grown_setq B5.out (Nat.le_refl _) _ _) (Nat.le_refl _) _ _) (Nat.le_refl _) _ _, rd_setq (rd_setq (rd_setq R5.out (by omega) _ _) (by omega) _ _) (by omega) _ _⟩
  refine ⟨StsAt.sub N4.out (keep_sub (by simp; omega) fun i hi hi2 => ?_), TrsAt.sub N5.out (keep_sub (by simp) fun i hi hi2 => ?_)⟩
  · have := from_true.1 hi2
    refine ⟨from_true.2 (by omega), ?_⟩
    rw [heap_setq (by omega), heap_setq (by omega), heap_setq (by omega), heap_setq (by omega), D5.out.block i (by omega) (fun hc => by injection hc with hc; omega), heap_setq (by omega)]
  · have := from_true.1 hi2
    refine ⟨from_true.2 (by omega), ?_⟩
    rw [heap_setq (by omega), heap_setq (by omega), heap_setq (by omega), heap_setq (by omega)]
end Go.Proofs.YtkdgcdcakioajaaGreatDoor
