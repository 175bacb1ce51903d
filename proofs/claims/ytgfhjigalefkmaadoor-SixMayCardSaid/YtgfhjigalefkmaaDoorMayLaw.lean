/-
  The law SixMay holds for every input: for any eight ints and any int the call returns true and leaves what was there as it was. No condition of its own; the card: the five listed tables lie as their texts lay them (tied).
-/
import Derived.Test.YtgfhjigalefkmaaDoorCards
import Derived.Test.YtgfhjigalefkmaaDoorTie
import Derived.WalkKit
import Derived.ProofKit
import Derived.OpenShut
import Derived.ShutString
import Derived.Test.YtgfhjigalefkmaaDoorSOpen
namespace Go.Proofs.YtgfhjigalefkmaaDoor.sixMay
open Go.ChangeShapes Go.WideShapes Go.ChangeAt Go.RowKit
open Go.ChangeMaps (open_string shut_string)
open Go.Shelf
open Go.Proofs.YtgfhjigalefkmaaDoor.Six
set_option linter.unusedSimpArgs false
set_option linter.unusedVariables false

theorem own : ownKnob Tryd.prog.godebug = none := by kernel_rfl

theorem may_set (p : List Int) (j : Nat) (h : j < p.length) : mayP (p.set j 65536) = false := by
  cases e : mayP (p.set j 65536)
  · rfl
  · have := (may_iff _).1 e 65536 (by rw [List.mem_iff_getElem]; exact ⟨j, by simpa using h, by simp⟩)
    omega
theorem show_bool (p : List Int) (h8 : p.length = 8) (b : Bool) (hb : mayP p = b) : ((⟨(showS p).toArray⟩ : ByteArray).toList.isEmpty) = !b := by
  rw [ByteArray.toList_eq]
  have h := show_empty p h8
  rw [hb] at h
  cases b
  · show (showS p).isEmpty = true
    rw [h.2 rfl]; rfl
  · show (showS p).isEmpty = false
    cases e : showS p with
    | nil => have := h.1 e; cases this
    | cons c r => rfl
set_option maxRecDepth 100000 in
set_option maxHeartbeats 4000000 in
theorem walk (p : List Int) (h8 : p.length = 8) (i : Int) (w0 : ∀ z ∈ p, (Lit.int .i64 z).wf = true) (w1 : (Lit.int .i64 i).wf = true) (m : Int) (w : World) (hm : At m w) :
    Calls Tryd.prog 8 #[.agg (arr p), .int .i64 i] w fun e w' => e = .returned (.bool true) ∧ Below w.heap.size w w' := by
  have HB := Lib.hid (show Below w.heap.size w (w.alloc (.cells (arr p) 22)) from (Below.refl _ w).alloc (Nat.le_refl _) _)
  have HR := Lib.hid (RowAt.new w p)
  have HM := Lib.hid (hm.later HB.out)
  have H8 := Lib.hid h8
  obtain ⟨b, hb⟩ : ∃ b, mayP p = b := ⟨_, rfl⟩
  have HMay := Lib.hid hb
  have hi : decide (i < 0) = true ∨ (decide (i < 0) = false ∧ decide (7 < i) = true) ∨ ∃ j : Nat, i = (j : Int) ∧ j < 8 ∧ decide ((j : Int) < 0) = false ∧ decide (7 < (j : Int)) = false := by
    by_cases h1 : i < 0
    · exact .inl (decide_eq_true h1)
    · by_cases h2 : 7 < i
      · exact .inr (.inl ⟨decide_eq_false h1, decide_eq_true h2⟩)
      · exact .inr (.inr ⟨i.toNat, by omega, by omega, decide_eq_false (by omega), decide_eq_false (by omega)⟩)
  clear h8 hm hb
  go_enter Tryd.func8, Tryd.ntmps8
  go_wp2_with fail
  generalize w.alloc (.cells (arr p) 22) = W at HB HR HM ⊢
  refine (awake_calls m _ HM.out).mono ?_
  rintro e u1 ⟨rfl, hB1⟩
  have HR1 := Lib.hid (HR.out.later hB1)
  have HB1 := Lib.hid (Ascii.below2 HB.out hB1)
  have HM1 := Lib.hid (HM.out.later hB1)
  clear hB1 HR HB HM
  go_wp2
  go_loopw [6, 7] (fun x j wr => ∃ q : Nat, q ≤ 8 ∧ j = .int .i64 q ∧ x = .bool (mayP (p.take q)) ∧ wr = u1) (fun _ j _ => 8 - (intOf j).toNat)
  case atStart => exact ⟨0, Nat.zero_le _, rfl, rfl, rfl⟩
  case round =>
    obtain ⟨q, hq, rfl, rfl, rfl⟩ := hrel
    by_cases hlt : q < 8
    · have t1 : (q : Int) < 8 := by omega
      have hqp : q < p.length := by have := H8.out; omega
      have hc := HR1.out.cell q hqp
      obtain ⟨z, hz⟩ : ∃ z, p[q] = z := ⟨_, rfl⟩
      rw [hz] at hc
      have HN := Lib.hid (show mayP (p.take (q + 1)) = (mayP (p.take q) && (decide (0 ≤ z) && decide (z ≤ 65535))) by
        unfold mayP
        rw [List.take_succ_eq_append_getElem hqp, List.all_append, hz]
        simp)
      clear hz hqp
      generalize mayP (p.take q) = x at HN
      cases x
      · go_wp2
        go_roundw
        case rel => exact ⟨q + 1, by omega, by go_num, by rw [HN.out]; rfl, by first | trivial | rfl⟩
        case measure => simp [intOf]; omega
      · by_cases z0 : 0 ≤ z
        · have d0 : decide (0 ≤ z) = true := decide_eq_true z0
          by_cases z1 : z ≤ 65535
          · have d1 : decide (z ≤ 65535) = true := decide_eq_true z1
            have HN2 := Lib.hid (show mayP (p.take (q + 1)) = true by rw [HN.out, d0, d1]; rfl)
            clear z0 z1
            go_wp2
            go_roundw
            case rel => exact ⟨q + 1, by omega, by go_num, by rw [HN2.out], by first | trivial | rfl⟩
            case measure => simp [intOf]; omega
          · have d1 : decide (z ≤ 65535) = false := decide_eq_false z1
            have HN2 := Lib.hid (show mayP (p.take (q + 1)) = false by rw [HN.out, d0, d1]; rfl)
            clear z0 z1
            go_wp2
            go_roundw
            case rel => exact ⟨q + 1, by omega, by go_num, by rw [HN2.out], by first | trivial | rfl⟩
            case measure => simp [intOf]; omega
        · have d0 : decide (0 ≤ z) = false := decide_eq_false z0
          have HN2 := Lib.hid (show mayP (p.take (q + 1)) = false by rw [HN.out, d0]; rfl)
          clear z0
          go_wp2
          go_roundw
          case rel => exact ⟨q + 1, by omega, by go_num, by rw [HN2.out], by first | trivial | rfl⟩
          case measure => simp [intOf]; omega
    · obtain rfl : q = 8 := by omega
      have he : mayP (p.take 8) = b := by rw [List.take_of_length_le (by have := H8.out; omega), HMay.out]
      have bb : (b == b) = true := by simp
      rw [he]
      clear he hlt
      rcases hi with b1 | ⟨b1, b2⟩ | ⟨j, rfl, hj, b1, b2⟩
      · go_wp2_with (refine wp_load22g rfl _ rfl w.heap.size rfl p H8.out HR1.out ?_)
        refine (may_any p H8.out b HMay.out _).mono ?_
        rintro e u2 ⟨rfl, hB2⟩
        go_wp2
        go_ret
        exact ⟨rfl, Ascii.below2 HB1.out hB2⟩
      · go_wp2_with (refine wp_load22g rfl _ rfl w.heap.size rfl p H8.out HR1.out ?_)
        refine (may_any p H8.out b HMay.out _).mono ?_
        rintro e u2 ⟨rfl, hB2⟩
        go_wp2
        go_ret
        exact ⟨rfl, Ascii.below2 HB1.out hB2⟩
      · have hjp : j < p.length := by have := H8.out; omega
        have hRn := (RowAt.new wr zero8).row p
        have hc := hRn.cell j hjp
        have hf := hRn.frozen j
        have hRq := hRn.set j 65536
        have hBn : Below wr.heap.size wr (((wr.alloc (.cells (arr zero8) 22)).setRow wr.heap.size (arr p)).setCell ⟨wr.heap.size, j, none⟩ (.int .i64 65536)) := (below_setRow ((Below.refl _ wr).alloc (Nat.le_refl _) _) (Nat.le_refl _) _).setCell (p := ⟨wr.heap.size, j, none⟩) (Nat.le_refl _) _
        generalize p[j] = z at hc
        have hc' : ((wr.alloc (.cells #[.int .i64 0, .int .i64 0, .int .i64 0, .int .i64 0, .int .i64 0, .int .i64 0, .int .i64 0, .int .i64 0] 22)).setRow wr.heap.size (arr p)).cell? ⟨wr.heap.size, j, none⟩ = some (.int .i64 z) := hc
        have hf' : ((wr.alloc (.cells #[.int .i64 0, .int .i64 0, .int .i64 0, .int .i64 0, .int .i64 0, .int .i64 0, .int .i64 0, .int .i64 0] 22)).setRow wr.heap.size (arr p)).frozen? ⟨wr.heap.size, j, none⟩ = false := hf
        have HQ := Lib.hid (show RowAt (((wr.alloc (.cells (arr zero8) 22)).setRow wr.heap.size (arr p)).setCell ⟨wr.heap.size, j, none⟩ (.int .i64 65536)) wr.heap.size (p.set j 65536) ∧ RowAt (((wr.alloc (.cells (arr zero8) 22)).setRow wr.heap.size (arr p)).setCell ⟨wr.heap.size, j, none⟩ (.int .i64 65536)) w.heap.size p from ⟨hRq, HR1.out.later hBn⟩)
        have HBn := Lib.hid hBn
        have HZ := Lib.hid (RowAt.new wr zero8)
        have HQ8 := Lib.hid (show (p.set j 65536).length = 8 by rw [List.length_set]; exact H8.out)
        have HQm := Lib.hid (may_set p j hjp)
        clear hc hf hRn hRq hBn hjp
        go_wp2_with (first
          | refine wp_load22 rfl _ rfl w.heap.size rfl p H8.out HR1.out ?_
          | refine wp_store22 rfl _ _ rfl wr.heap.size rfl p rfl H8.out zero8 rfl HZ.out ?_
          | refine wp_load22g rfl _ rfl w.heap.size rfl p H8.out HQ.out.2 ?_)
        refine (may_any p H8.out b HMay.out _).mono ?_
        rintro e u2 ⟨rfl, hB2⟩
        have HQ2 := Lib.hid (show RowAt u2 wr.heap.size (p.set j 65536) ∧ RowAt u2 w.heap.size p from ⟨HQ.out.1.later hB2, HQ.out.2.later hB2⟩)
        have HB2 := Lib.hid (Ascii.below3 HB1.out HBn.out hB2)
        have HM2 := Lib.hid ((HM1.out.later HBn.out).later hB2)
        clear hB2 HQ HB1 HBn HM1 HZ hc' hf'
        go_wp2_with (refine wp_load22g rfl _ rfl wr.heap.size rfl (p.set j 65536) HQ8.out HQ2.out.1 ?_)
        refine (may_any (p.set j 65536) HQ8.out false HQm.out _).mono ?_
        rintro e u3 ⟨rfl, hB3⟩
        have HQ3 := Lib.hid (show RowAt u3 wr.heap.size (p.set j 65536) ∧ RowAt u3 w.heap.size p from ⟨HQ2.out.1.later hB3, HQ2.out.2.later hB3⟩)
        have HB3 := Lib.hid (Ascii.below2 HB2.out hB3)
        have HM3 := Lib.hid (HM2.out.later hB3)
        clear hB3 HQ2 HB2 HM2
        go_wp2_with (refine wp_load22g rfl _ rfl wr.heap.size rfl (p.set j 65536) HQ8.out HQ3.out.1 ?_)
        refine (show_any (p.set j 65536) HQ8.out ⟨#[]⟩ (by unfold showS; rw [HQm.out]; rfl) m _ HM3.out).mono ?_
        rintro e u4 ⟨rfl, hB4⟩
        have HQ4 := Lib.hid (show RowAt u4 w.heap.size p from HQ3.out.2.later hB4)
        have HB4 := Lib.hid (Ascii.below2 HB3.out hB4)
        have HM4 := Lib.hid (HM3.out.later hB4)
        clear hB4 HQ3 HB3 HM3
        go_wp2_with (refine wp_load22g rfl _ rfl w.heap.size rfl p H8.out HQ4.out ?_)
        obtain ⟨x, hx⟩ : ∃ x : ByteArray, (⟨(showS p).toArray⟩ : ByteArray) = x := ⟨_, rfl⟩
        have hxb := show_bool p H8.out b HMay.out
        rw [hx] at hxb
        refine (show_any p H8.out x hx m _ HM4.out).mono ?_
        rintro e u5 ⟨rfl, hB5⟩
        clear hx
        cases b
        all_goals
          go_wp2
          go_ret
          exact ⟨rfl, Ascii.below2 HB4.out hB5⟩

/-! ### The row's step -/
theorem reads (os : Os) {H : Type} (enc : TypeId × Value → H) : (DataW.whole enc Tryd.prog ((Card.laidWorld os).forCall (fun _ _ => 0) ⟨#[], #[.agg #[.int .i64 0, .int .i64 0, .int .i64 0, .int .i64 0, .int .i64 0, .int .i64 0, .int .i64 0, .int .i64 0], .int .i64 0], []⟩).memory Tryd.f8.params.toList Rows.sixMaySpec.vars false (#[.agg #[.int .i64 0, .int .i64 0, .int .i64 0, .int .i64 0, .int .i64 0, .int .i64 0, .int .i64 0, .int .i64 0], .int .i64 0] : Array Value).toList 8).map (fun x => (x.1, x.2.1)) = some ([.agg [.lit (.int .i64 0), .lit (.int .i64 0), .lit (.int .i64 0), .lit (.int .i64 0), .lit (.int .i64 0), .lit (.int .i64 0), .lit (.int .i64 0), .lit (.int .i64 0)], .lit (.int .i64 0)], []) := by kernel_rfl
set_option maxRecDepth 100000 in
theorem lifted (os : Os) (started : os.Started) (H : Type) (enc : TypeId × Value → H) (F : Stop.Interp) :
    ReturnsInHanded {} Tryd.checked os 8 .any ((OpenSpec.ofChange Rows.sixMaySpec).preRow enc Tryd.prog Tryd.f8 Rows.sixMayRow.domain false Rows.sixMayRow.laid) (((OpenSpec.ofChange Rows.sixMaySpec).at F).post enc Tryd.prog Tryd.f8 false true false false) := by
  obtain ⟨⟨x1, x2, x3⟩, hx, hx1⟩ := Option.map_eq_some_iff.1 (reads os enc)
  simp only [Prod.mk.injEq] at hx1
  obtain ⟨rfl, rfl⟩ := hx1
  refine returnsInHanded_of_row (C := Tryd.checked) (s := OpenSpec.ofChange Rows.sixMaySpec) own started (by kernel_rfl) Tryd.func8
    (witness_row_at (enc := enc) (C := Tryd.checked) false (Card.laidWorld os) #[.agg #[.int .i64 0, .int .i64 0, .int .i64 0, .int .i64 0, .int .i64 0, .int .i64 0, .int .i64 0, .int .i64 0], .int .i64 0] rfl (by kernel_rfl) (by kernel_rfl) (by kernel_rfl)
      (OpenSpec.preRow_of_cond 8 hx (by kernel_rfl) (fun k hk => by cases hk) (by kernel_rfl) (Card.laid_met os _))) ?_
  intro W base args ds gs before hval0 hW _ _ _ hL hsh _
  obtain ⟨m, hmax⟩ := Card.maxLen_int hsh
  have hm : At m W := ⟨hmax, tab_of hL⟩
  have hval : ∀ (j : Nat) t v, Tryd.f8.params[j]? = some t → args[j]? = some v → Value.okWide Tryd.prog W .any base t v := hval0
  have hW' := hW
  obtain ⟨p, q, hA0, hV, rfl, hfz, hnd⟩ := hW
  have hA : DataW.TrodAll enc Tryd.prog W 0 (fun _ => true) true Tryd.f8.params.toList args.toList ds p := hA0
  rw [Tryd.params8] at hA hval
  obtain ⟨v0, vs0, d0, ds0, p0, q0, hargs0, rfl, rfl, t0, r0⟩ := trodAll_cons hA
  obtain ⟨v1, vs1, d1, ds1, p1, q1, hargs1, rfl, rfl, t1, r1⟩ := trodAll_cons r0
  obtain ⟨rfl, rfl, rfl⟩ := trodAll_nil r1
  obtain rfl : args = #[v0, v1] := by cases args; simp_all
  obtain ⟨rfl, rfl⟩ := trodVars_none hV
  obtain ⟨a0, l0, rfl, rfl, rfl, w0⟩ := open_row8 (hval 0 22 v0 rfl rfl) t0
  obtain ⟨a1, rfl, rfl, rfl, w1⟩ := open_int Tryd.underlying3 (hval 1 3 v1 rfl rfl) t1
  clear hA0 hval0
  simp only [List.append_nil] at hW'
  refine (walk a0 l0 a1 w0 w1 m W hm).mono fun e W' ⟨he, hg⟩ => ?_
  subst he
  exact ⟨_, rfl, _, _, _, [], _, [], hW', trodAll_mk1 (shut_bool Tryd.underlying4 _), (trodAll_cons_mk (shut_row8 l0 w0) (trodAll_cons_mk (shut_int Tryd.underlying3 w1) trodAll_mk0)), rfl, hg.frame _, fun h => by cases h⟩

theorem said : Rows.sixMayRow.holds Tryd.pinned (OpenSpec.ofChange Rows.sixMaySpec) :=
  OpenClaim.holds_of_cond 8 Tryd.f8 rfl rfl rfl rfl rfl rfl rfl ⟨rfl, rfl, rfl, rfl, rfl⟩ rfl rfl rfl rfl rfl (by kernel_rfl) Tryd.func8 (by kernel_rfl)
    (of_decide_eq_true (by kernel_rfl)) (by unfold Func.isWrapper; first | (rw [if_pos (by decide +kernel)]; kernel_rfl) | (rw [if_neg (by decide +kernel)]; exact ⟨rfl, rfl⟩))
    (fun os started H enc _ F => by rw [OpenClaim.pre_eq_preRow]; exact lifted os started H enc F)

/-- No parameter wants a stand-in; the program's own looks are off. -/
theorem plain (f : FuncId) (fn : Func) (hf : Tryd.pinned.checked.prog.funcNamed Rows.sixMayRow.func = some f) (hfn : Tryd.pinned.checked.prog.funcs[f]? = some fn) :
    false = Tryd.pinned.checked.prog.looks [] ∧ ∀ (j : Nat) t, fn.params[j]? = some t → Tryd.pinned.checked.prog.wantsStandIn t = false := by
  obtain rfl : f = 8 := Option.some.inj ((show Tryd.prog.funcNamed Rows.sixMayRow.func = some 8 by kernel_rfl).symm.trans hf) |>.symm
  obtain rfl : fn = Tryd.f8 := (Option.some.inj (Tryd.func8.symm.trans hfn)).symm
  refine ⟨by kernel_rfl, fun j t ht => ?_⟩
  rw [Tryd.params8] at ht
  obtain rfl | rfl : t = 22 ∨ t = 3 := by simpa using Array.mem_of_getElem? ht
  · exact (show Tryd.prog.wantsStandIn 22 = false by kernel_rfl)
  · exact (show Tryd.prog.wantsStandIn 3 = false by kernel_rfl)

/-- The statement: the card. -/
theorem proved : Rows.SixMayCardSaid :=
  Claim7.holds_tied_plain_at .later [] _ _ _ _ said (fun _ h => by cases h) (by kernel_rfl) (fun _ h => by cases h) sixMay_row_tie rfl ⟨rfl, rfl⟩ (by kernel_rfl) rfl plain (by kernel_rfl)
#print axioms proved
end Go.Proofs.YtgfhjigalefkmaaDoor.sixMay
