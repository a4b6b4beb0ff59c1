/- The contracts of codec's reader's act, state, trans and chart, and of getEach of states and transitions. -/
import Derived.Test.YtkdgcdcakioajaaGreatDoorKeach
namespace Go.Proofs.YtkdgcdcakioajaaGreatDoor
open Go.ChangeShapes Go.WideShapes Go.ChangeAt Go.RowKit
set_option linter.unusedVariables false

theorem enters30 : Enters 30 := enters_of Tryz.func30 (by kernel_rfl) rfl
theorem enters32 : Enters 32 := enters_of Tryz.func32 (by kernel_rfl) rfl
theorem Tryz.infoSt : (Tryz.prog.info? 40).map (fun i => (i.zero, i.size, i.bytes)) = some (some (.agg #[.int .i64 0, .int .i64 0, .slice none 0 0, .slice none 0 0, .slice none 0 0]), 5, 88) := by kernel_rfl
theorem Tryz.infoTr : (Tryz.prog.info? 45).map (fun i => (i.zero, i.size, i.bytes)) = some (some (.agg #[.int .i64 0, .int .i64 0, .string ⟨#[]⟩, .slice none 0 0, .bool false, .slice none 0 0]), 6, 88) := by kernel_rfl
theorem grown_setq {w w1 : World} {r : Option Nat} {q : Nat} (h : w.grownBy w1 r) (hq : w.heap.size ≤ q) (i : Nat) (u : Value) : w.grownBy (w1.setCell ⟨q, i, none⟩ u) r :=
  ⟨h.os, h.tape, h.output, by simpa using h.size, fun j hj hn => (Below.heap_setCell w1 ⟨q, i, none⟩ u j (by show j ≠ q; omega)).trans (h.block j hj hn)⟩
theorem rd_setq {g q : Nat} {vin : Value} {w : World} {s : RS} (h : RdAt g vin w s) (hq : g ≠ q) (i : Nat) (u : Value) : RdAt g vin (w.setCell ⟨q, i, none⟩ u) s := (Below.heap_setCell w ⟨q, i, none⟩ u g hq).trans h
theorem blk_grown {w w1 : World} {g q : Nat} {t : TypeId} {cs : Array Value} (h : Blk w q t cs) (hg : w.grownBy w1 (some g)) (hq : q ≠ g) : Blk w1 q t cs := (hg.block q h.lt (fun hc => hq (by injection hc))).trans h
theorem grown_alloc (w : World) (o : Obj) (r : Option Nat) : w.grownBy (w.alloc o) r := World.grownBy_alloc w o r
theorem heap_setq {w : World} {q i j : Nat} {u : Value} (h : i ≠ q) : (w.setCell ⟨q, j, none⟩ u).heap[i]? = w.heap[i]? := Below.heap_setCell w ⟨q, j, none⟩ u i h
/-- what is new, in a later world -/
theorem keep_later {w w1 w2 W : World} {g n : Nat} (hg : w1.grownBy w2 (some g)) (hs : g < w.heap.size) (h : ∀ i, w.heap.size ≤ i → W.heap[i]? = w2.heap[i]?) (hW : w2.heap.size ≤ W.heap.size) (hn : n ≤ w.heap.size) : Sub (keep (from_ w.heap.size) w1) (keep (from_ n) W) :=
  keep_sub (Nat.le_trans hg.size hW) fun i hi hi2 => by
    have := from_true.1 hi2
    exact ⟨from_true.2 (by omega), (h i this).trans (hg.block i hi (fun hc => by injection hc with hc; omega))⟩
theorem acP_eq (l : List UInt8) (s : RS) : acP l s = (⟨(numP l s).1, (numP l (numP l s).2).1, (numP l (numP l (numP l s).2).2).1, (textP l (numP l (numP l (numP l s).2).2).2).1⟩, (textP l (numP l (numP l (numP l s).2).2).2).2) := rfl
abbrev zAc : Array Value := #[.int .i64 0, .int .i64 0, .int .i64 0, .string ⟨#[]⟩]
theorem blk4_facts {w : World} {g t : Nat} {a b c d : Value} (h : Blk w g t #[a, b, c, d]) : (w.cell? ⟨g, 0, none⟩ = some a ∧ w.cell? ⟨g, 1, none⟩ = some b ∧ w.cell? ⟨g, 2, none⟩ = some c ∧ w.cell? ⟨g, 3, none⟩ = some d) ∧ w.frozen? ⟨g, 0, none⟩ = false ∧ w.frozen? ⟨g, 1, none⟩ = false ∧ w.frozen? ⟨g, 2, none⟩ = false ∧ w.frozen? ⟨g, 3, none⟩ = false :=
  ⟨⟨h.cell 0, h.cell 1, h.cell 2, h.cell 3⟩, h.frozen 0, h.frozen 1, h.frozen 2, h.frozen 3⟩
set_option maxHeartbeats 1000000 in
set_option maxRecDepth 100000 in
theorem ract_any {W0 : World} {vin : Value} {l : List UInt8} {g : Nat} (hC : RCtx W0 vin l g) (s : RS) (w : World) (hb : Below W0.heap.size W0 w) (hS : RdAt g vin w s) (hk : s.1 ≤ l.length) :
    Calls Tryz.prog 60 #[.pointer (some ⟨g, 0, none⟩)] w (GPost acAgg (fun x => x) noNest g vin (acP l s) w) := by
  have hgw := hS.lt
  have HR := Lib.hid (acP_eq l s)
  have HN := Lib.hid (fun s1 w1 (hg1 : (w.alloc (.cells zAc 60)).grownBy w1 (some g)) (hr : RdAt g vin w1 s1) (h : s1.1 ≤ l.length) => number_any hC s1 w1 (grown_below hb hC.le (grown_trans (grown_alloc w _ _) hg1)) hr h)
  have HT := Lib.hid (fun s1 w1 (hg1 : (w.alloc (.cells zAc 60)).grownBy w1 (some g)) (hr : RdAt g vin w1 s1) (h : s1.1 ≤ l.length) => text_any' hC s1 w1 (grown_below hb hC.le (grown_trans (grown_alloc w _ _) hg1)) hr h)
  have HQ := Lib.hid (Blk.new w 60 zAc)
  have HS := Lib.hid (Blk.alloc hS (.cells zAc 60))
  have k1 := num_le s hk
  have k2 := num_le _ k1
  have k3 := num_le _ k2
  have K := Lib.hid (And.intro hk (And.intro k1 (And.intro k2 k3)))
  generalize acP l s = R at *
  clear hb hS k1 k2 k3
  go_enter Tryz.func60, Tryz.ntmps60
  go_wp2_with fail
  refine (HN.out s _ (grown_refl _ _) HS.out K.out.1).mono ?_
  rintro e w1 ⟨rfl, h1, h2⟩
  have G1 := Lib.hid h1
  have R1 := Lib.hid h2
  clear h1 h2
  go_wp2_with fail
  refine (HN.out _ _ G1.out R1.out K.out.2.1).mono ?_
  rintro e w2 ⟨rfl, h1, h2⟩
  have G2 := Lib.hid (grown_trans G1.out h1)
  have R2 := Lib.hid h2
  clear h1 h2
  go_wp2_with fail
  refine (HN.out _ _ G2.out R2.out K.out.2.2.1).mono ?_
  rintro e w3 ⟨rfl, h1, h2⟩
  have G3 := Lib.hid (grown_trans G2.out h1)
  have R3 := Lib.hid h2
  clear h1 h2
  go_wp2_with fail
  refine (HT.out _ _ G3.out R3.out K.out.2.2.2).mono ?_
  rintro e w4 ⟨rfl, h1, h2⟩
  have G4 := Lib.hid (grown_trans G3.out h1)
  have R4 := Lib.hid h2
  have hq := blk_grown HQ.out (grown_trans G3.out h1) (by omega)
  have HQ4 := Lib.hid hq
  obtain ⟨⟨c0, c1, c2, c3⟩, f0, f1, f2, f3⟩ := blk4_facts hq
  clear h1 h2 hq
  go_wp2_with fail
  refine bodyPost_ret (results_blk rfl _ _ _ rfl (load60 ((((HQ4.out.set_ 0 _).set_ 1 _).set_ 2 _).set_ 3 _))) rfl ?_
  rw [HR.out]
  exact ⟨_, rfl, rfl, trivial, grown_setq (grown_setq (grown_setq (grown_setq (grown_trans (grown_alloc w _ _) G4.out) (Nat.le_refl _) _ _) (Nat.le_refl _) _ _) (Nat.le_refl _) _ _) (Nat.le_refl _) _ _, rd_setq (rd_setq (rd_setq (rd_setq R4.out (by omega) _ _) (by omega) _ _) (by omega) _ _) (by omega) _ _⟩
theorem act_reads {W0 : World} {vin : Value} {l : List UInt8} {g : Nat} (hC : RCtx W0 vin l g) : GReads acAgg (fun x : Ac => x) noNest l g vin W0 (acP l) 60 #[.pointer (some ⟨g, 0, none⟩)] :=
  fun s w hb hS hk => ract_any hC s w hb hS hk
theorem ac_le {l : List UInt8} (s : RS) (h : s.1 ≤ l.length) : (acP l s).2.1 ≤ l.length := ((ac_cod l).le s h).2
theorem text_le {l : List UInt8} (s : RS) (h : s.1 ≤ l.length) : (textP l s).2.1 ≤ l.length := ((text_cod l).le s h).2
theorem truth_le {l : List UInt8} (s : RS) (h : s.1 ≤ l.length) : (truthP l s).2.1 ≤ l.length := ((truth_cod l).le s h).2
theorem rowI_le {l : List UInt8} (s : RS) (h : s.1 ≤ l.length) : (rowP l 3 (numP l) s).2.1 ≤ l.length := ((row_cod (num_cod l) 3 (by omega)).le s h).2
theorem rowA_le {l : List UInt8} (s : RS) (h : s.1 ≤ l.length) : (rowP l 5 (acP l) s).2.1 ≤ l.length := ((row_cod (ac_cod l) 5 (by omega)).le s h).2
theorem num_range (l : List UInt8) (s : RS) : 0 ≤ (numP l s).1 ∧ (numP l s).1 ≤ 2147483647 := upTo_range l _ _ (by omega) s
abbrev zSt : Array Value := #[.int .i64 0, .int .i64 0, .slice none 0 0, .slice none 0 0, .slice none 0 0]
abbrev zTr : Array Value := #[.int .i64 0, .int .i64 0, .string ⟨#[]⟩, .slice none 0 0, .bool false, .slice none 0 0]
abbrev RawSt := St × Value × Value × Value
def stAgg (r : RawSt) : Value := .agg #[.int .i64 r.1.kind, .int .i64 r.1.par, r.2.1, r.2.2.1, r.2.2.2]
def stNest (W : World) (r : RawSt) : Prop := StHas W r.2.1 r.2.2.1 r.2.2.2 r.1
abbrev RawTr := Tr × Value × Value
def trAgg (r : RawTr) : Value := .agg #[.int .i64 r.1.src, .int .i64 r.1.ev, .string r.1.guard, r.2.1, .bool r.1.inner, r.2.2]
def trNest (W : World) (r : RawTr) : Prop := TrHas W r.2.1 r.2.2 r.1
theorem blk5_facts {w : World} {g t : Nat} {a b c d e : Value} (h : Blk w g t #[a, b, c, d, e]) : (w.cell? ⟨g, 0, none⟩ = some a ∧ w.cell? ⟨g, 1, none⟩ = some b ∧ w.cell? ⟨g, 2, none⟩ = some c ∧ w.cell? ⟨g, 3, none⟩ = some d ∧ w.cell? ⟨g, 4, none⟩ = some e) ∧ w.frozen? ⟨g, 0, none⟩ = false ∧ w.frozen? ⟨g, 1, none⟩ = false ∧ w.frozen? ⟨g, 2, none⟩ = false ∧ w.frozen? ⟨g, 3, none⟩ = false ∧ w.frozen? ⟨g, 4, none⟩ = false :=
  ⟨⟨h.cell 0, h.cell 1, h.cell 2, h.cell 3, h.cell 4⟩, h.frozen 0, h.frozen 1, h.frozen 2, h.frozen 3, h.frozen 4⟩
theorem blk6_facts {w : World} {g t : Nat} {a b c d e f : Value} (h : Blk w g t #[a, b, c, d, e, f]) : (w.cell? ⟨g, 0, none⟩ = some a ∧ w.cell? ⟨g, 1, none⟩ = some b ∧ w.cell? ⟨g, 2, none⟩ = some c ∧ w.cell? ⟨g, 3, none⟩ = some d ∧ w.cell? ⟨g, 4, none⟩ = some e ∧ w.cell? ⟨g, 5, none⟩ = some f) ∧ w.frozen? ⟨g, 0, none⟩ = false ∧ w.frozen? ⟨g, 1, none⟩ = false ∧ w.frozen? ⟨g, 2, none⟩ = false ∧ w.frozen? ⟨g, 3, none⟩ = false ∧ w.frozen? ⟨g, 4, none⟩ = false ∧ w.frozen? ⟨g, 5, none⟩ = false :=
  ⟨⟨h.cell 0, h.cell 1, h.cell 2, h.cell 3, h.cell 4, h.cell 5⟩, h.frozen 0, h.frozen 1, h.frozen 2, h.frozen 3, h.frozen 4, h.frozen 5⟩
theorem stP_eq (l : List UInt8) (s : RS) : stP l s = (⟨(numP l s).1, (numP l (numP l s).2).1 - 1, (rowP l 3 (numP l) (numP l (numP l s).2).2).1, (rowP l 5 (acP l) (rowP l 3 (numP l) (numP l (numP l s).2).2).2).1, (rowP l 5 (acP l) (rowP l 5 (acP l) (rowP l 3 (numP l) (numP l (numP l s).2).2).2).2).1⟩, (rowP l 5 (acP l) (rowP l 5 (acP l) (rowP l 3 (numP l) (numP l (numP l s).2).2).2).2).2) := by simp only [stP, asP, thenP]
theorem trP_eq (l : List UInt8) (s : RS) : trP l s = (⟨(numP l s).1, (numP l (numP l s).2).1, (textP l (numP l (numP l s).2).2).1, (rowP l 3 (numP l) (textP l (numP l (numP l s).2).2).2).1, (truthP l (rowP l 3 (numP l) (textP l (numP l (numP l s).2).2).2).2).1, (rowP l 5 (acP l) (truthP l (rowP l 3 (numP l) (textP l (numP l (numP l s).2).2).2).2).2).1⟩, (rowP l 5 (acP l) (truthP l (rowP l 3 (numP l) (textP l (numP l (numP l s).2).2).2).2).2).2) := by simp only [trP, asP, thenP]
set_option maxHeartbeats 2000000 in
set_option maxRecDepth 100000 in
theorem state_any {W0 : World} {vin : Value} {l : List UInt8} {g : Nat} (hC : RCtx W0 vin l g) (s : RS) (w : World) (hb : Below W0.heap.size W0 w) (hS : RdAt g vin w s) (hk : s.1 ≤ l.length) :
    Calls Tryz.prog 30 #[.pointer (some ⟨g, 0, none⟩)] w (GPost stAgg (fun x => x.1) stNest g vin (stP l s) w) := by
  have hgw := hS.lt
  have HR := Lib.hid (stP_eq l s)
  have HBL := Lib.hid (fun w1 (hg1 : (w.alloc (.cells zSt 40)).grownBy w1 (some g)) => grown_below hb hC.le (grown_trans (grown_alloc w _ _) hg1))
  have HQ := Lib.hid (Blk.new w 40 zSt)
  have HS := Lib.hid (Blk.alloc hS (.cells zSt 40))
  have HC := Lib.hid hC
  have k1 := num_le _ hk
  have k2 := num_le _ k1
  have k3 := rowI_le _ k2
  have k4 := rowA_le _ k3
  have k5 := rowA_le _ k4
  have K := Lib.hid (And.intro hk (And.intro k1 (And.intro k2 (And.intro k3 (k4)))))
  have hp1 := (num_range l (numP l s).2).1
  have hp2 := (num_range l (numP l s).2).2
  generalize stP l s = R at *
  clear hb hS hk hC k1 k2 k3 k4 k5
  have hC := HC.out
  have hE27 := enters27
  have hE60 := enters60
  unfold Enters at hE27 hE60
  go_enter Tryz.func30, Tryz.ntmps30
  go_wp2_with fail
  refine (number_any HC.out _ _ (HBL.out _ (grown_refl _ _)) HS.out K.out.1).mono ?_
  rintro e w1 ⟨rfl, h1, h2⟩
  have G1 := Lib.hid h1
  have R1 := Lib.hid h2
  have z1 := h1.size
  clear h1 h2
  go_wp2_with fail
  refine (number_any HC.out _ _ (HBL.out _ G1.out) R1.out K.out.2.1).mono ?_
  rintro e w2 ⟨rfl, h1, h2⟩
  have G2 := Lib.hid (grown_trans G1.out h1)
  have D2 := Lib.hid h1
  have R2 := Lib.hid h2
  have z2 := h1.size
  clear h1 h2
  go_wp2_with fail
  refine (rowInt_any HC.out (number_reads HC.out) num_le 3 (by omega) (by omega) _ _ (HBL.out _ G2.out) R2.out K.out.2.2.1).mono ?_
  rintro e w3 ⟨⟨v3, x3⟩, rfl, hv3, hn3, h1, h2⟩
  dsimp only at hv3 hn3 ⊢
  have hv3' : x3 = _ := hv3
  subst hv3'
  clear hv3
  obtain ⟨A3, cap3, hs3, _⟩ := RowsAt.slice hn3
  have hs3' : v3 = _ := hs3
  subst hs3'
  clear hs3
  have N3 := Lib.hid hn3
  clear hn3
  have G3 := Lib.hid (grown_trans G2.out h1)
  have D3 := Lib.hid h1
  have R3 := Lib.hid h2
  have z3 := h1.size
  clear h1 h2
  go_wp2_with fail
  refine (rowAct_any HC.out (act_reads HC.out) ac_le 5 (by omega) (by omega) _ _ (HBL.out _ G3.out) R3.out K.out.2.2.2.1).mono ?_
  rintro e w4 ⟨⟨v4, x4⟩, rfl, hv4, hn4, h1, h2⟩
  dsimp only at hv4 hn4 ⊢
  have hv4' : x4 = _ := hv4
  subst hv4'
  clear hv4
  obtain ⟨A4, cap4, hs4, _⟩ := RowsAt.slice hn4
  have hs4' : v4 = _ := hs4
  subst hs4'
  clear hs4
  have N4 := Lib.hid hn4
  clear hn4
  have G4 := Lib.hid (grown_trans G3.out h1)
  have D4 := Lib.hid h1
  have R4 := Lib.hid h2
  have z4 := h1.size
  clear h1 h2
  go_wp2_with fail
  refine (rowAct_any HC.out (act_reads HC.out) ac_le 5 (by omega) (by omega) _ _ (HBL.out _ G4.out) R4.out K.out.2.2.2.2).mono ?_
  rintro e w5 ⟨⟨v5, x5⟩, rfl, hv5, hn5, h1, h2⟩
  dsimp only at hv5 hn5 ⊢
  have hv5' : x5 = _ := hv5
  subst hv5'
  clear hv5
  obtain ⟨A5, cap5, hs5, _⟩ := RowsAt.slice hn5
  have hs5' : v5 = _ := hs5
  subst hs5'
  clear hs5
  have N5 := Lib.hid hn5
  clear hn5
  have G5 := Lib.hid (grown_trans G4.out h1)
  have D5 := Lib.hid h1
  have R5 := Lib.hid h2
  have z5 := h1.size
  have hq := blk_grown HQ.out G5.out (by omega)
  have HQF := Lib.hid hq
  obtain ⟨⟨c0, c1, c2, c3, c4⟩, f0, f1, f2, f3, f4⟩ := blk5_facts hq
  clear h1 h2 hq
  go_wp2_with fail
  refine bodyPost_ret (results_blk rfl _ _ _ rfl (load40 (((((HQF.out.set_ 0 _).set_ 1 _).set_ 2 _).set_ 3 _).set_ 4 _))) rfl ?_
  rw [HR.out]
  have zw : (w.alloc (.cells zSt 40)).heap.size = w.heap.size + 1 := by simp
  refine ⟨(_, _, _, _), rfl, rfl, ?_, (grown_setq (grown_setq (grown_setq (grown_setq (grown_setq (grown_trans (grown_alloc w _ _) G5.out) (Nat.le_refl _) _ _) (Nat.le_refl _) _ _) (Nat.le_refl _) _ _) (Nat.le_refl _) _ _) (Nat.le_refl _) _ _), (rd_setq (rd_setq (rd_setq (rd_setq (rd_setq R5.out (by omega) _ _) (by omega) _ _) (by omega) _ _) (by omega) _ _) (by omega) _ _)⟩
  exact ⟨ListAt.sub N3.out (keep_later (grown_trans D4.out D5.out) (by omega) (fun i hi => by (repeat rw [heap_setq (by omega)])) (by simp) (by omega)), ActsAt.sub N4.out (keep_later D5.out (by omega) (fun i hi => by (repeat rw [heap_setq (by omega)])) (by simp) (by omega)), ActsAt.sub N5.out (keep_later (grown_refl w5 (some g)) (by omega) (fun i hi => by (repeat rw [heap_setq (by omega)])) (by simp) (by omega))⟩
set_option maxHeartbeats 2000000 in
set_option maxRecDepth 100000 in
theorem trans_any {W0 : World} {vin : Value} {l : List UInt8} {g : Nat} (hC : RCtx W0 vin l g) (s : RS) (w : World) (hb : Below W0.heap.size W0 w) (hS : RdAt g vin w s) (hk : s.1 ≤ l.length) :
    Calls Tryz.prog 32 #[.pointer (some ⟨g, 0, none⟩)] w (GPost trAgg (fun x => x.1) trNest g vin (trP l s) w) := by
  have hgw := hS.lt
  have HR := Lib.hid (trP_eq l s)
  have HBL := Lib.hid (fun w1 (hg1 : (w.alloc (.cells zTr 45)).grownBy w1 (some g)) => grown_below hb hC.le (grown_trans (grown_alloc w _ _) hg1))
  have HQ := Lib.hid (Blk.new w 45 zTr)
  have HS := Lib.hid (Blk.alloc hS (.cells zTr 45))
  have HC := Lib.hid hC
  have k1 := num_le _ hk
  have k2 := num_le _ k1
  have k3 := text_le _ k2
  have k4 := rowI_le _ k3
  have k5 := truth_le _ k4
  have k6 := rowA_le _ k5
  have K := Lib.hid (And.intro hk (And.intro k1 (And.intro k2 (And.intro k3 (And.intro k4 (k5))))))
  generalize trP l s = R at *
  clear hb hS hk hC k1 k2 k3 k4 k5 k6
  have hC := HC.out
  have hE27 := enters27
  have hE60 := enters60
  unfold Enters at hE27 hE60
  go_enter Tryz.func32, Tryz.ntmps32
  go_wp2_with fail
  refine (number_any HC.out _ _ (HBL.out _ (grown_refl _ _)) HS.out K.out.1).mono ?_
  rintro e w1 ⟨rfl, h1, h2⟩
  have G1 := Lib.hid h1
  have R1 := Lib.hid h2
  have z1 := h1.size
  clear h1 h2
  go_wp2_with fail
  refine (number_any HC.out _ _ (HBL.out _ G1.out) R1.out K.out.2.1).mono ?_
  rintro e w2 ⟨rfl, h1, h2⟩
  have G2 := Lib.hid (grown_trans G1.out h1)
  have D2 := Lib.hid h1
  have R2 := Lib.hid h2
  have z2 := h1.size
  clear h1 h2
  go_wp2_with fail
  refine (text_any' HC.out _ _ (HBL.out _ G2.out) R2.out K.out.2.2.1).mono ?_
  rintro e w3 ⟨rfl, h1, h2⟩
  have G3 := Lib.hid (grown_trans G2.out h1)
  have D3 := Lib.hid h1
  have R3 := Lib.hid h2
  have z3 := h1.size
  clear h1 h2
  go_wp2_with fail
  refine (rowInt_any HC.out (number_reads HC.out) num_le 3 (by omega) (by omega) _ _ (HBL.out _ G3.out) R3.out K.out.2.2.2.1).mono ?_
  rintro e w4 ⟨⟨v4, x4⟩, rfl, hv4, hn4, h1, h2⟩
  dsimp only at hv4 hn4 ⊢
  have hv4' : x4 = _ := hv4
  subst hv4'
  clear hv4
  obtain ⟨A4, cap4, hs4, _⟩ := RowsAt.slice hn4
  have hs4' : v4 = _ := hs4
  subst hs4'
  clear hs4
  have N4 := Lib.hid hn4
  clear hn4
  have G4 := Lib.hid (grown_trans G3.out h1)
  have D4 := Lib.hid h1
  have R4 := Lib.hid h2
  have z4 := h1.size
  clear h1 h2
  go_wp2_with fail
  refine (truth_any' HC.out _ _ (HBL.out _ G4.out) R4.out K.out.2.2.2.2.1).mono ?_
  rintro e w5 ⟨rfl, h1, h2⟩
  have G5 := Lib.hid (grown_trans G4.out h1)
  have D5 := Lib.hid h1
  have R5 := Lib.hid h2
  have z5 := h1.size
  clear h1 h2
  go_wp2_with fail
  refine (rowAct_any HC.out (act_reads HC.out) ac_le 5 (by omega) (by omega) _ _ (HBL.out _ G5.out) R5.out K.out.2.2.2.2.2).mono ?_
  rintro e w6 ⟨⟨v6, x6⟩, rfl, hv6, hn6, h1, h2⟩
  dsimp only at hv6 hn6 ⊢
  have hv6' : x6 = _ := hv6
  subst hv6'
  clear hv6
  obtain ⟨A6, cap6, hs6, _⟩ := RowsAt.slice hn6
  have hs6' : v6 = _ := hs6
  subst hs6'
  clear hs6
  have N6 := Lib.hid hn6
  clear hn6
  have G6 := Lib.hid (grown_trans G5.out h1)
  have D6 := Lib.hid h1
  have R6 := Lib.hid h2
  have z6 := h1.size
  have hq := blk_grown HQ.out G6.out (by omega)
  have HQF := Lib.hid hq
  obtain ⟨⟨c0, c1, c2, c3, c4, c5⟩, f0, f1, f2, f3, f4, f5⟩ := blk6_facts hq
  clear h1 h2 hq
  go_wp2_with fail
  refine bodyPost_ret (results_blk rfl _ _ _ rfl (load45 ((((((HQF.out.set_ 0 _).set_ 1 _).set_ 2 _).set_ 3 _).set_ 4 _).set_ 5 _))) rfl ?_
  rw [HR.out]
  have zw : (w.alloc (.cells zTr 45)).heap.size = w.heap.size + 1 := by simp
  refine ⟨(_, _, _), rfl, rfl, ?_, (grown_setq (grown_setq (grown_setq (grown_setq (grown_setq (grown_setq (grown_trans (grown_alloc w _ _) G6.out) (Nat.le_refl _) _ _) (Nat.le_refl _) _ _) (Nat.le_refl _) _ _) (Nat.le_refl _) _ _) (Nat.le_refl _) _ _) (Nat.le_refl _) _ _), (rd_setq (rd_setq (rd_setq (rd_setq (rd_setq (rd_setq R6.out (by omega) _ _) (by omega) _ _) (by omega) _ _) (by omega) _ _) (by omega) _ _) (by omega) _ _)⟩
  exact ⟨ListAt.sub N4.out (keep_later (grown_trans D5.out D6.out) (by omega) (fun i hi => by (repeat rw [heap_setq (by omega)])) (by simp) (by omega)), ActsAt.sub N6.out (keep_later (grown_refl w6 (some g)) (by omega) (fun i hi => by (repeat rw [heap_setq (by omega)])) (by simp) (by omega))⟩
end Go.Proofs.YtkdgcdcakioajaaGreatDoor
