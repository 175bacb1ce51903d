/-
  SixTells answers true for every input: any pieces may be, or not, have the row and the text, and any text tells the pieces, or none, that the document's own package answers. No condition of its own; the card lists five tables of Go's library, as the seat's text has them.
-/
import Derived.Test.YtgfhjigalefkmaaDoorCards
import Derived.Test.YtgfhjigalefkmaaDoorTie
import Derived.WalkKit
import Derived.ProofKit
import Derived.OpenShut
import Derived.ShutString
import Derived.Test.YtgfhjigalefkmaaDoorSOpen
import Derived.Test.YtgfhjigalefkmaaDoorSRefParse
namespace Go.Proofs.YtgfhjigalefkmaaDoor.sixTells
open Go.ChangeShapes Go.WideShapes Go.ChangeAt Go.RowKit
open Go.ChangeMaps (open_string shut_string)
open Go.Shelf
open Go.Proofs.YtgfhjigalefkmaaDoor.Six
set_option linter.unusedSimpArgs false
set_option linter.unusedVariables false

theorem own : ownKnob Tryd.prog.godebug = none := by kernel_rfl

theorem parI_len (l : List UInt8) : (parI l).length = 8 := by
  cases h : parB l
  · unfold parI; rw [h]; rfl
  · exact (par_may l h).1
set_option maxRecDepth 100000 in
set_option maxHeartbeats 4000000 in
theorem walkLong (p : List Int) (s : ByteArray) (hs : decide ((300 : Int) < (s.size : Int)) = true) (m : Int) (w : World) (hm : At m w) :
    Calls Tryd.prog 3 #[.agg (arr p), .string s] w fun e w' => e = .returned (.bool true) ∧ Below w.heap.size w w' := by
  have HB := Lib.hid (show Below w.heap.size w (w.alloc (.cells (arr p) 22)) from (Below.refl _ w).alloc (Nat.le_refl _) _)
  have HM := Lib.hid (hm.later HB.out)
  clear hm
  go_enter Tryd.func3, Tryd.ntmps3
  go_wp2_with fail
  refine (awake_calls m _ HM.out).mono ?_
  rintro e u1 ⟨rfl, hB1⟩
  go_wp2
  go_ret
  exact ⟨rfl, Ascii.below2 HB.out hB1⟩
set_option maxRecDepth 100000 in
set_option maxHeartbeats 8000000 in
theorem walkIn (p : List Int) (h8 : p.length = 8) (s : ByteArray) (hs : decide ((300 : Int) < (s.size : Int)) = false) (hs2 : s.size ≤ 300) (m : Int) (w : World) (hm : At m w) :
    Calls Tryd.prog 3 #[.agg (arr p), .string s] w fun e w' => e = .returned (.bool true) ∧ Below w.heap.size w w' := by
  obtain ⟨x, hx⟩ : ∃ x, parI s.data.toList = x := ⟨_, rfl⟩
  obtain ⟨c, hc⟩ : ∃ c, parB s.data.toList = c := ⟨_, rfl⟩
  obtain ⟨b, hb⟩ : ∃ b, mayP p = b := ⟨_, rfl⟩
  have hx8 : x.length = 8 := by rw [← hx]; exact parI_len _
  obtain ⟨t, ht⟩ : ∃ t : ByteArray, (⟨(showS p).toArray⟩ : ByteArray) = t := ⟨_, rfl⟩
  have hrun := fun u => run_any p h8 u
  have hrrun := fun u => refRun_any p h8 u
  obtain ⟨a, ha⟩ : ∃ a, (runP p).1 = a := ⟨_, rfl⟩
  obtain ⟨n, hn⟩ : ∃ n, (runP p).2 = n := ⟨_, rfl⟩
  rw [ha, hn] at hrun hrrun
  have HB := Lib.hid (show Below w.heap.size w (w.alloc (.cells (arr p) 22)) from (Below.refl _ w).alloc (Nat.le_refl _) _)
  have HR := Lib.hid (RowAt.new w p)
  have HM := Lib.hid (hm.later HB.out)
  have H8 := Lib.hid h8
  have HX8 := Lib.hid hx8
  have cPar := Lib.hid (fun u (hu : At m u) => parse_any s (by omega) x c hx hc m u hu)
  have cRef := Lib.hid (fun u => refParse_any s (by omega) x c hx hc u)
  have cRun := Lib.hid hrun
  have cRRun := Lib.hid hrrun
  have cRMay := Lib.hid (fun u => refMay_any p h8 b hb u)
  have cMay := Lib.hid (fun u => may_any p h8 b hb u)
  have cShow := Lib.hid (fun u (hu : At m u) => show_any p h8 t ht m u hu)
  have cRShow := Lib.hid (fun u => refShow_any p h8 t ht u)
  have HZ := Lib.hid (fun u : World => RowAt.new u zero8)
  clear h8 hx8 hm hx hc hb ht hrun hrrun ha hn
  go_enter Tryd.func3, Tryd.ntmps3
  go_wp2_with fail
  generalize w.alloc (.cells (arr p) 22) = W at HB HR HM ⊢
  refine (awake_calls m _ HM.out).mono ?_
  rintro e u1 ⟨rfl, hB1⟩
  have HR1 := Lib.hid (HR.out.later hB1)
  have HB1 := Lib.hid (Ascii.below2 HB.out hB1)
  have HM1 := Lib.hid (HM.out.later hB1)
  clear hB1 HR HB HM
  go_wp2_with fail
  refine (cPar.out _ HM1.out).mono ?_
  rintro e u2 ⟨rfl, hB2⟩
  have hBn : Below u2.heap.size u2 ((u2.alloc (.cells (arr zero8) 22)).setRow u2.heap.size (arr x)) := below_setRow ((Below.refl _ u2).alloc (Nat.le_refl _) _) (Nat.le_refl _) _
  have HR2 := Lib.hid ((HR1.out.later hB2).later hBn)
  have HX2 := Lib.hid ((HZ.out u2).row x)
  have HB2 := Lib.hid (Ascii.below3 HB1.out hB2 hBn)
  have HM2 := Lib.hid ((HM1.out.later hB2).later hBn)
  clear hB2 hBn HR1 HB1 HM1 cPar
  go_wp2_with (refine wp_store22 rfl _ _ rfl u2.heap.size rfl x rfl HX8.out zero8 rfl (HZ.out _) ?_)
  refine (cRef.out _).mono ?_
  rintro e u3 ⟨rfl, hB3⟩
  have hBn : Below u3.heap.size u3 ((u3.alloc (.cells (arr zero8) 22)).setRow u3.heap.size (arr x)) := below_setRow ((Below.refl _ u3).alloc (Nat.le_refl _) _) (Nat.le_refl _) _
  have HR3 := Lib.hid ((HR2.out.later hB3).later hBn)
  have HX3 := Lib.hid ((HX2.out.later hB3).later hBn)
  have HY3 := Lib.hid ((HZ.out u3).row x)
  have HB3 := Lib.hid (Ascii.below3 HB2.out hB3 hBn)
  have HM3 := Lib.hid ((HM2.out.later hB3).later hBn)
  clear hB3 hBn HR2 HX2 HB2 HM2 cRef
  go_wp2_with (first
    | refine wp_store22 rfl _ _ rfl u3.heap.size rfl x rfl HX8.out zero8 rfl (HZ.out _) ?_
    | refine wp_load22 rfl _ rfl w.heap.size rfl p H8.out HR3.out ?_)
  refine (cRun.out _).mono ?_
  rintro e u4 ⟨rfl, hB4⟩
  have HR4 := Lib.hid (HR3.out.later hB4)
  have HX4 := Lib.hid (HX3.out.later hB4)
  have HY4 := Lib.hid (HY3.out.later hB4)
  have HB4 := Lib.hid (Ascii.below2 HB3.out hB4)
  have HM4 := Lib.hid (HM3.out.later hB4)
  clear hB4 HR3 HX3 HY3 HB3 HM3 cRun HZ
  go_wp2_with ((with_reducible refine wp_load22 (o := ⟨some 40, .load 22 (.tmp 2), _, _, _, _⟩) ?_ (.tmp 2) ?_ w.heap.size ?_ p H8.out HR4.out ?_); (· rfl); (· rfl); (· rfl))
  refine (cRRun.out _).mono ?_
  rintro e u5 ⟨rfl, hB5⟩
  have HR5 := Lib.hid (HR4.out.later hB5)
  have HX5 := Lib.hid (HX4.out.later hB5)
  have HY5 := Lib.hid (HY4.out.later hB5)
  have HB5 := Lib.hid (Ascii.below2 HB4.out hB5)
  have HM5 := Lib.hid (HM4.out.later hB5)
  clear hB5 HR4 HX4 HY4 HB4 HM4 cRRun
  go_wp2_with ((with_reducible refine wp_load22 (o := ⟨some 44, .load 22 (.tmp 2), _, _, _, _⟩) ?_ (.tmp 2) ?_ w.heap.size ?_ p H8.out HR5.out ?_); (· rfl); (· rfl); (· rfl))
  refine (cRMay.out _).mono ?_
  rintro e V ⟨rfl, hB6⟩
  have HR6 := Lib.hid (HR5.out.later hB6)
  have HX6 := Lib.hid (HX5.out.later hB6)
  have HY6 := Lib.hid (HY5.out.later hB6)
  have HB6 := Lib.hid (Ascii.below2 HB5.out hB6)
  have HM6 := Lib.hid (HM5.out.later hB6)
  clear hB6 HR5 HX5 HY5 HB5 HM5 cRMay
  go_wp2_with fail
  have kM := Lib.hid (show ∀ (u : World) (hu : Below V.heap.size V u), Calls Tryd.prog 15 #[.agg (arr p)] u fun e u' => e = .returned (.bool b) ∧ Below V.heap.size V u' from fun u hu => (cMay.out u).mono fun e u' h => ⟨h.1, hu.trans (h.2.mono hu.size)⟩)
  have kS := Lib.hid (show ∀ (u : World) (hu : Below V.heap.size V u), Calls Tryd.prog 16 #[.agg (arr p)] u fun e u' => e = .returned (.string t) ∧ Below V.heap.size V u' from fun u hu => (cShow.out u (HM6.out.later hu)).mono fun e u' h => ⟨h.1, hu.trans (h.2.mono hu.size)⟩)
  have kR := Lib.hid (show ∀ (u : World) (hu : Below V.heap.size V u), Calls Tryd.prog 17 #[.agg (arr p)] u fun e u' => e = .returned (.string t) ∧ Below V.heap.size V u' from fun u hu => (cRShow.out u).mono fun e u' h => ⟨h.1, hu.trans (h.2.mono hu.size)⟩)
  have hany : ∀ p : Prop, (∀ u, Below V.heap.size V u → p) ↔ p := fun p => ⟨fun h => h _ (Below.refl _ _), fun h _ _ => h⟩
  have heqx := fun u => eq22 x x HX8.out HX8.out true (by simp) u
  clear cMay cShow cRShow
  refine Ascii.wp_region_quiet_below (by kernel_rfl) (by kernel_rfl) ?_
  ((go_big_quiet_want; (with_reducible refine quiet_load (o := ⟨some 46, .load 22 (.tmp 6), _, _, _, _⟩) 22 (.tmp 6) ?_ ⟨u2.heap.size, 0, none⟩ ?_ (.agg (arr x)) ?_ ?_); (· rfl); (· rfl); (· exact fun u hu => (HX6.out.later hu).load HX8.out)); go_big_quiet_on; simp only [Act.put, List.setIfInBounds_toArray, List.set_cons_succ, List.set_cons_zero])
  ((go_big_quiet_want; (with_reducible refine quiet_load (o := ⟨some 47, .load 22 (.tmp 8), _, _, _, _⟩) 22 (.tmp 8) ?_ ⟨u3.heap.size, 0, none⟩ ?_ (.agg (arr x)) ?_ ?_); (· rfl); (· rfl); (· exact fun u hu => (HY6.out.later hu).load HX8.out)); go_big_quiet_on; simp only [Act.put, List.setIfInBounds_toArray, List.set_cons_succ, List.set_cons_zero])
  iterate 17 (go_big_quiet_step (fail))
  ((go_big_quiet_want; (with_reducible refine quiet_load (o := ⟨some 65, .load 22 (.tmp 2), _, _, _, _⟩) 22 (.tmp 2) ?_ ⟨w.heap.size, 0, none⟩ ?_ (.agg (arr p)) ?_ ?_); (· rfl); (· rfl); (· exact fun u hu => (HR6.out.later hu).load H8.out)); go_big_quiet_on; simp only [Act.put, List.setIfInBounds_toArray, List.set_cons_succ, List.set_cons_zero])
  go_big_quiet_step ((intro hu; go_at_call 15; exact kM.out _ hu))
  iterate 4 (go_big_quiet_step (fail))
  ((go_big_quiet_want; (with_reducible refine quiet_load (o := ⟨some 71, .load 22 (.tmp 2), _, _, _, _⟩) 22 (.tmp 2) ?_ ⟨w.heap.size, 0, none⟩ ?_ (.agg (arr p)) ?_ ?_); (· rfl); (· rfl); (· exact fun u hu => (HR6.out.later hu).load H8.out)); go_big_quiet_on; simp only [Act.put, List.setIfInBounds_toArray, List.set_cons_succ, List.set_cons_zero])
  go_big_quiet_step ((intro hu; go_at_call 16; exact kS.out _ hu))
  ((go_big_quiet_want; (with_reducible refine quiet_load (o := ⟨some 73, .load 22 (.tmp 2), _, _, _, _⟩) 22 (.tmp 2) ?_ ⟨w.heap.size, 0, none⟩ ?_ (.agg (arr p)) ?_ ?_); (· rfl); (· rfl); (· exact fun u hu => (HR6.out.later hu).load H8.out)); go_big_quiet_on; simp only [Act.put, List.setIfInBounds_toArray, List.set_cons_succ, List.set_cons_zero])
  go_big_quiet_step ((intro hu; go_at_call 17; exact kR.out _ hu))
  repeat (go_big_quiet_step (fail))
  refine wpQuiet_nil ?_
  intro u hu
  go_wp2
  go_ret
  exact ⟨rfl, Ascii.below2 HB6.out hu⟩
theorem walk (p : List Int) (h8 : p.length = 8) (s : ByteArray) (w0 : ∀ z ∈ p, (Lit.int .i64 z).wf = true) (w1 : s.size ≤ maxLen) (m : Int) (w : World) (hm : At m w) :
    Calls Tryd.prog 3 #[.agg (arr p), .string s] w fun e w' => e = .returned (.bool true) ∧ Below w.heap.size w w' := by
  by_cases h : s.size ≤ 300
  · exact walkIn p h8 s (decide_eq_false (by omega)) h m w hm
  · exact walkLong p s (decide_eq_true (by omega)) m w hm

/-! ### The row's step -/
theorem reads (os : Os) {H : Type} (enc : TypeId × Value → H) : (DataW.whole enc Tryd.prog ((Card.laidWorld os).forCall (fun _ _ => 0) ⟨#[], #[.agg #[.int .i64 0, .int .i64 0, .int .i64 0, .int .i64 0, .int .i64 0, .int .i64 0, .int .i64 0, .int .i64 0], .string ByteArray.empty], []⟩).memory Tryd.f3.params.toList Rows.sixTellsSpec.vars false (#[.agg #[.int .i64 0, .int .i64 0, .int .i64 0, .int .i64 0, .int .i64 0, .int .i64 0, .int .i64 0, .int .i64 0], .string ByteArray.empty] : Array Value).toList 8).map (fun x => (x.1, x.2.1)) = some ([.agg [.lit (.int .i64 0), .lit (.int .i64 0), .lit (.int .i64 0), .lit (.int .i64 0), .lit (.int .i64 0), .lit (.int .i64 0), .lit (.int .i64 0), .lit (.int .i64 0)], .lit (.string [])], []) := by kernel_rfl
set_option maxRecDepth 100000 in
theorem lifted (os : Os) (started : os.Started) (H : Type) (enc : TypeId × Value → H) (F : Stop.Interp) :
    ReturnsInHanded {} Tryd.checked os 3 .any ((OpenSpec.ofChange Rows.sixTellsSpec).preRow enc Tryd.prog Tryd.f3 Rows.sixTellsRow.domain false Rows.sixTellsRow.laid) (((OpenSpec.ofChange Rows.sixTellsSpec).at F).post enc Tryd.prog Tryd.f3 false true false false) := by
  obtain ⟨⟨x1, x2, x3⟩, hx, hx1⟩ := Option.map_eq_some_iff.1 (reads os enc)
  simp only [Prod.mk.injEq] at hx1
  obtain ⟨rfl, rfl⟩ := hx1
  refine returnsInHanded_of_row (C := Tryd.checked) (s := OpenSpec.ofChange Rows.sixTellsSpec) own started (by kernel_rfl) Tryd.func3
    (witness_row_at (enc := enc) (C := Tryd.checked) false (Card.laidWorld os) #[.agg #[.int .i64 0, .int .i64 0, .int .i64 0, .int .i64 0, .int .i64 0, .int .i64 0, .int .i64 0, .int .i64 0], .string ByteArray.empty] rfl (by kernel_rfl) (by kernel_rfl) (by kernel_rfl)
      (OpenSpec.preRow_of_cond 8 hx (by kernel_rfl) (fun k hk => by cases hk) (by kernel_rfl) (Card.laid_met os _))) ?_
  intro W base args ds gs before hval0 hW _ _ _ hL hsh _
  obtain ⟨m, hmax⟩ := Card.maxLen_int hsh
  have hm : At m W := ⟨hmax, tab_of hL⟩
  have hval : ∀ (j : Nat) t v, Tryd.f3.params[j]? = some t → args[j]? = some v → Value.okWide Tryd.prog W .any base t v := hval0
  have hW' := hW
  obtain ⟨p, q, hA0, hV, rfl, hfz, hnd⟩ := hW
  have hA : DataW.TrodAll enc Tryd.prog W 0 (fun _ => true) true Tryd.f3.params.toList args.toList ds p := hA0
  rw [Tryd.params3] at hA hval
  obtain ⟨v0, vs0, d0, ds0, p0, q0, hargs0, rfl, rfl, t0, r0⟩ := trodAll_cons hA
  obtain ⟨v1, vs1, d1, ds1, p1, q1, hargs1, rfl, rfl, t1, r1⟩ := trodAll_cons r0
  obtain ⟨rfl, rfl, rfl⟩ := trodAll_nil r1
  obtain rfl : args = #[v0, v1] := by cases args; simp_all
  obtain ⟨rfl, rfl⟩ := trodVars_none hV
  obtain ⟨a0, l0, rfl, rfl, rfl, w0⟩ := open_row8 (hval 0 22 v0 rfl rfl) t0
  obtain ⟨a1, rfl, rfl, rfl, w1⟩ := open_string Tryd.underlying9 (hval 1 9 v1 rfl rfl) t1
  clear hA0 hval0
  simp only [List.append_nil] at hW'
  refine (walk a0 l0 a1 w0 w1 m W hm).mono fun e W' ⟨he, hg⟩ => ?_
  subst he
  exact ⟨_, rfl, _, _, _, [], _, [], hW', trodAll_mk1 (shut_bool Tryd.underlying4 _), (trodAll_cons_mk (shut_row8 l0 w0) (trodAll_cons_mk (shut_string Tryd.underlying9 w1) trodAll_mk0)), rfl, hg.frame _, fun h => by cases h⟩

theorem said : Rows.sixTellsRow.holds Tryd.pinned (OpenSpec.ofChange Rows.sixTellsSpec) :=
  OpenClaim.holds_of_cond 3 Tryd.f3 rfl rfl rfl rfl rfl rfl rfl ⟨rfl, rfl, rfl, rfl, rfl⟩ rfl rfl rfl rfl rfl (by kernel_rfl) Tryd.func3 (by kernel_rfl)
    (of_decide_eq_true (by kernel_rfl)) (by unfold Func.isWrapper; first | (rw [if_pos (by decide +kernel)]; kernel_rfl) | (rw [if_neg (by decide +kernel)]; exact ⟨rfl, rfl⟩))
    (fun os started H enc _ F => by rw [OpenClaim.pre_eq_preRow]; exact lifted os started H enc F)

/-- No parameter wants a stand-in; the program's own looks are off. -/
theorem plain (f : FuncId) (fn : Func) (hf : Tryd.pinned.checked.prog.funcNamed Rows.sixTellsRow.func = some f) (hfn : Tryd.pinned.checked.prog.funcs[f]? = some fn) :
    false = Tryd.pinned.checked.prog.looks [] ∧ ∀ (j : Nat) t, fn.params[j]? = some t → Tryd.pinned.checked.prog.wantsStandIn t = false := by
  obtain rfl : f = 3 := Option.some.inj ((show Tryd.prog.funcNamed Rows.sixTellsRow.func = some 3 by kernel_rfl).symm.trans hf) |>.symm
  obtain rfl : fn = Tryd.f3 := (Option.some.inj (Tryd.func3.symm.trans hfn)).symm
  refine ⟨by kernel_rfl, fun j t ht => ?_⟩
  rw [Tryd.params3] at ht
  obtain rfl | rfl : t = 22 ∨ t = 9 := by simpa using Array.mem_of_getElem? ht
  · exact (show Tryd.prog.wantsStandIn 22 = false by kernel_rfl)
  · exact (show Tryd.prog.wantsStandIn 9 = false by kernel_rfl)

/-- The statement: the card. -/
theorem proved : Rows.SixTellsCardSaid :=
  Claim7.holds_tied_plain_at .later [] _ _ _ _ said (fun _ h => by cases h) (by kernel_rfl) (fun _ h => by cases h) sixTells_row_tie rfl ⟨rfl, rfl⟩ (by kernel_rfl) rfl plain (by kernel_rfl)
#print axioms proved
end Go.Proofs.YtgfhjigalefkmaaDoor.sixTells
