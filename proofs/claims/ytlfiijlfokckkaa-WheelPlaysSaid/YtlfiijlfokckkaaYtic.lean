/- Tick. -/
import Derived.Test.YtlfiijlfokckkaaYdue
namespace Go.Proofs.Ytlfiijlfokckkaa
open Go.ChangeShapes Go.WideShapes Go.ChangeAt Go.RowKit Go.Maps
set_option linter.unusedVariables false

def restF (S : List Tm) (now : Int) : List Tm := S.filter fun t => !lateB now t
theorem Sound.sub {c : Int} {S : List Tm} (h : Sound c S) (p : Tm → Bool) : Sound c (S.filter p) :=
  ⟨h.nodup.sublist ((List.filter_sublist (p := p) (l := S)).map _), fun t ht => h.late t (List.mem_filter.1 ht).1, fun t ht => h.ids t (List.mem_filter.1 ht).1, Nat.le_trans (List.length_filter_le _ _) h.few, h.now0, h.now1⟩
theorem drop_all (R S : List Tm) : R.foldl (fun S t => dropId S t.id) S = S.filter fun t => !R.any fun r => decide (t.id = r.id) := by
  induction R generalizing S with
  | nil => exact (List.filter_eq_self.2 fun _ _ => rfl).symm
  | cons r R ih =>
    rw [List.foldl_cons, ih]
    unfold dropId
    rw [List.filter_filter]
    refine List.filter_congr fun t _ => ?_
    rw [List.any_cons, Bool.not_or, Bool.and_comm]
theorem same_id {S : List Tm} (hS : (S.map fun t => t.id).Nodup) : ∀ t ∈ S, ∀ r ∈ S, t.id = r.id → t = r := by
  induction S with
  | nil => intro t ht; cases ht
  | cons s S ih =>
    rw [List.map_cons, List.nodup_cons] at hS
    intro t ht r hr e
    rcases List.mem_cons.1 ht with rfl | ht'
    · rcases List.mem_cons.1 hr with rfl | hr'
      · rfl
      · exact absurd (by rw [e]; exact List.mem_map_of_mem (f := fun t => t.id) hr') hS.1
    · rcases List.mem_cons.1 hr with rfl | hr'
      · exact absurd (by rw [← e]; exact List.mem_map_of_mem (f := fun t => t.id) ht') hS.1
      · exact ih hS.2 t ht' r hr' e
/-- all that is due is taken out, and nothing else -/
theorem drop_due {S R : List Tm} {c now : Int} (hS : Sound c S) (hR : DueOf S now R) : R.foldl (fun S t => dropId S t.id) S = restF S now := by
  rw [drop_all]
  unfold restF
  refine List.filter_congr fun t ht => ?_
  congr 1
  rw [Bool.eq_iff_iff, List.any_eq_true]
  constructor
  · rintro ⟨r, hr, he⟩
    have h1 := (mem_due hR r).1 hr
    have : t = r := same_id hS.nodup t ht r h1.1 (by simpa using he)
    subst this
    simpa [lateB] using h1.2
  · intro h
    exact ⟨t, (mem_due hR t).2 ⟨ht, by simpa [lateB] using h⟩, by simp⟩
theorem rest_sound {S : List Tm} {c now : Int} (hS : Sound c S) (h0 : c ≤ now) (h1 : now ≤ 1073741824) : Sound now (restF S now) := by
  have h := hS.sub fun t => !lateB now t
  refine ⟨h.nodup, fun t ht => ⟨?_, (h.late t ht).2⟩, h.ids, h.few, by have := hS.now0; omega, h1⟩
  have := (List.mem_filter.1 ht).2
  simp [lateB] at this
  omega
theorem tick_bad (B g m : Nat) (vs : Nat → Value) (c now : Int) (S : List Tm) (w : World) (h : WhAt B w g m vs c S) (hn : now < c ∨ 1073741824 < now) :
    Calls Try.prog 10 #[.pointer (some ⟨g, 0, none⟩), .int .i64 now] w fun e w' => w' = w ∧ e = .returned (.tuple #[.slice none 0 0, errV 1]) := by
  have c0 := h.c0
  clear h
  by_cases h1 : now < c
  · clear hn
    go_enter Try.func10, Try.ntmps10
    go_wp2_with fail
    go_ret2
    exact ⟨rfl, rfl⟩
  · have h2 : 1073741824 < now := by omega
    clear hn
    go_enter Try.func10, Try.ntmps10
    go_wp2_with fail
    go_ret2
    exact ⟨rfl, rfl⟩
def TickPost (B g m : Nat) (vs : Nat → Value) (now : Int) (S : List Tm) (w : World) (e : Ending) (w' : World) : Prop := ∃ v R vs', e = .returned (.tuple #[v, .nilIface]) ∧ DueOf S now R ∧ OwnT w' w.heap.size v R ∧ KB (Own g m vs) w w' ∧ WhAt B w' g m vs' now (restF S now) ∧ ∀ b, Own g m vs' b → Own g m vs b
set_option maxHeartbeats 4000000 in
set_option maxRecDepth 100000 in
theorem tick_ok (B g m : Nat) (vs : Nat → Value) (c now : Int) (S : List Tm) (w : World) (h : WhAt B w g m vs c S) (hS : Sound c S) (h1 : ¬ now < c) (h2 : ¬ 1073741824 < now) :
    Calls Try.prog 10 #[.pointer (some ⟨g, 0, none⟩), .int .i64 now] w fun e w' => TickPost B g m vs now S w e w' := by
  have c0 := h.c0
  have HD := Lib.hid (due_any B g m vs c now S w h hS (by omega) (by omega))
  have HH := Lib.hid h
  have HS := Lib.hid hS
  clear h hS
  go_enter Try.func10, Try.ntmps10
  go_wp2_with fail
  refine HD.out.mono ?_
  rintro e w1 ⟨hb1, v, R, rfl, hown, hR, hlr⟩
  have HLR := Lib.hid hlr
  have HB1 := Lib.hid hb1
  have HO := Lib.hid hown
  have HR := Lib.hid hR
  have HH1 := Lib.hid (HH.out.below hb1)
  obtain ⟨A, cap, hv⟩ := hown.slice
  subst hv
  clear hb1 hown hR HD hlr
  go_wp2_with fail
  go_loopg [25] R.length (fun kx s25 wr => ∃ (i : Nat) (vi : Nat → Value), s25 = .int .i64 (i : Int) ∧ i ≤ R.length ∧ R.length - i ≤ kx ∧ Hid (WhAt B wr g m vi c ((R.take i).foldl (fun S t => dropId S t.id) S)) ∧ Hid (Sound c ((R.take i).foldl (fun S t => dropId S t.id) S)) ∧ Hid (KB (Own g m vs) w wr) ∧ Hid (OwnT wr w.heap.size (.slice A R.length cap) R) ∧ Hid (∀ b, Own g m vi b → Own g m vs b))
  case atStart => exact ⟨0, vs, rfl, Nat.zero_le _, by omega, HH1, HS, Lib.hid (KB.of_below HB1.out), HO, Lib.hid fun b hb => hb⟩
  case round =>
    clear HH1 HO c0
    obtain ⟨i, vi, hs25, hi, hkx, HW, HSi, HK, HO, HOW⟩ := hrel
    subst hs25
    obtain ⟨wi, rfl⟩ : ∃ W : World, W = wr := ⟨_, rfl⟩
    by_cases hlt : i < R.length
    · have hltz : (i : Int) < (R.length : Int) := by omega
      have wj : IntKind.i64.wrap ((i : Int) + 1) = (i : Int) + 1 := by have := HLR.out; rw [IntKind.wrap_i64]; omega
      have hx := List.getElem?_eq_getElem hlt
      obtain ⟨A0, cap0, hsl, hcap, hcells⟩ := HO.out.tms
      injection hsl with hs1 hs2 hs3
      subst hs1; subst hs3
      obtain ⟨b, o, rfl, hbl, hc⟩ := hcells i _ hx
      obtain ⟨d0, d1, d2⟩ := hc
      have hmem := (mem_due HR.out R[i]).1 (List.getElem_mem hlt)
      have hid := HS.out.ids _ hmem.1
      have HTK : Hid ((R.take (i + 1)).foldl (fun S t => dropId S t.id) S = dropId ((R.take i).foldl (fun S t => dropId S t.id) S) R[i].id) := Lib.hid (by
        rw [List.take_add_one, hx, List.foldl_append]
        rfl)
      generalize R[i] = t at d0 d1 d2 hid HTK
      obtain ⟨t0, t1, t2⟩ := t
      simp only at d0 d1 d2 hid HTK
      have HID := Lib.hid hid
      clear hx hcells hs2 hcap hmem hid
      have hbox := below_box wi (.cells #[.int .i64 t0, .int .i64 t1, .int .i64 t2] 30)
      have HC := Lib.hid (cancel_any B g m vi c t0 _ (wi.alloc (.cells #[.int .i64 t0, .int .i64 t1, .int .i64 t2] 30)) (HW.out.below hbox) HSi.out HID.out)
      have HK2 := Lib.hid (HK.out.trans (KB.of_below hbox))
      have HO2 := Lib.hid (HO.out.below hbox)
      have HLT : Hid (∀ b, Own g m vi b → b < w.heap.size) := Lib.hid fun b hb => (HH.out.own_lt b (HOW.out b hb)).2
      clear hbox
      go_wp2_with fail
      refine HC.out.mono ?_
      rintro e w5 ⟨rfl, v5, hk5, hw5, ho5⟩
      have HW5 := Lib.hid hw5
      have HK5 := Lib.hid (HK2.out.trans (hk5.wide fun b _ hb => HOW.out b hb))
      have HO5 : Hid (OwnT w5 w.heap.size _ R) := Lib.hid (own_kb HO2.out hk5 (fun b hb hc => by
        have h1 := (HO2.out.lt b hb).1
        have h2 := HLT.out b hc
        omega))
      have HOW5 : Hid (∀ b, Own g m v5 b → Own g m vs b) := Lib.hid fun b hb => HOW.out b (ho5 b hb)
      clear hk5 hw5 ho5 d0 d1 d2
      go_wp2_with fail
      go_roundg (R.length - (i + 1))
      case measure => omega
      case rel => exact ⟨i + 1, v5, by go_num, by omega, by omega, Lib.hid (by rw [HTK.out]; exact HW5.out), Lib.hid (by rw [HTK.out]; exact HSi.out.sub _), HK5, HO5, HOW5⟩
    · obtain rfl : i = R.length := by omega
      have hltz : ¬ (R.length : Int) < (R.length : Int) := by omega
      have hE : (R.take R.length).foldl (fun S t => dropId S t.id) S = restF S now := by rw [List.take_length]; exact drop_due HS.out HR.out
      rw [hE] at HW
      have c0 := HW.out.c0
      have f0 := HW.out.blk.frozen 0
      have HG : Hid (KB (fun b => b = g) wi (wi.setCell ⟨g, 0, none⟩ (.int .i64 now))) := Lib.hid (KB.of_grown (grown_set wi g 0 (.int .i64 now)) (fun b hb => by injection hb with hb; exact hb.symm))
      have HB0 := Lib.hid (HW.out.blk.set_ 0 (.int .i64 now))
      rw [wcells_now] at HB0
      have HF : Hid (KB (Own g m vs) w (wi.setCell ⟨g, 0, none⟩ (.int .i64 now)) ∧ WhAt B (wi.setCell ⟨g, 0, none⟩ (.int .i64 now)) g m vi now (restF S now) ∧ OwnT (wi.setCell ⟨g, 0, none⟩ (.int .i64 now)) w.heap.size (.slice A R.length cap) R) := Lib.hid (by
        refine ⟨HK.out.trans (HG.out.wide fun b _ hb => .inl hb), ⟨HB0.out, ?_, fun k hk => own_kb (HW.out.rows k hk) HG.out (fun b hb hc => HW.out.row_g hk (by rw [hb, hc])), HW.out.apart, HW.out.Bg, HW.out.Bm⟩, own_kb HO.out HG.out (fun b hb hc => by
          have h1 := (HO.out.lt b hb).1
          have h2 := HH.out.blk.lt
          omega)⟩
        exact HW.out.ids.kept (grown_set wi g 0 (.int .i64 now)) (by simpa using Ne.symm HW.out.gm))
      clear hE
      go_wp2_with fail
      go_ret2
      exact ⟨_, R, vi, rfl, HR.out, HF.out.2.2, HF.out.1, HF.out.2.1, HOW.out⟩
end Go.Proofs.Ytlfiijlfokckkaa
