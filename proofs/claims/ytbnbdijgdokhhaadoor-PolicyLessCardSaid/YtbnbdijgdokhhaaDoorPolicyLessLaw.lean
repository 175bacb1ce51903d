/-
  For every input the law PolicyLess (P15.1, P15.2, P15.4) answers true, and its arguments read as before: what goes to another origin, or goes down, is never allowed more, nothing more than the most, and the usual policy as much as what is usual. Condition: package policy's table of levels lies as its text lays it (listed by the card).
-/
import Derived.Test.YtbnbdijgdokhhaaDoorCards
import Derived.Test.YtbnbdijgdokhhaaDoorTie
import Derived.WalkKit
import Derived.ProofKit
import Derived.OpenShut
import Derived.ShutString
import Derived.ChangeOld
import Derived.Below
import Derived.SizedLaws
import Derived.Test.YtbnbdijgdokhhaaDoorPlRef
import Derived.Test.YtbnbdijgdokhhaaDoorLaid
namespace Go.Proofs.YtbnbdijgdokhhaaDoor.policyLess
open Go.ChangeShapes Go.WideShapes Go.ChangeAt Go.RowKit
open Go.ChangeMaps (open_string shut_string)
open Go.Shelf
open Go.Proofs.YtbnbdijgdokhhaaDoor.Policy
set_option linter.unusedSimpArgs false
set_option linter.unusedVariables false

theorem own : ownKnob Tryd.prog.godebug = none := by kernel_rfl
theorem laidOut : laidOutB Tryd.prog = true := by kernel_rfl

set_option maxRecDepth 100000
set_option maxHeartbeats 16000000 in
theorem walk (a0 : Int) (a1 : Bool) (a2 : Bool) (w0 : (Lit.int .i64 a0).wf = true) (w : World) (hm : TabAt w) :
    Calls Tryd.prog 4 #[.int .i64 a0, .bool a1, .bool a2] w fun e w' => e = .returned (.bool true) ∧ Below w.heap.size w w' := by
  have HT0 := Lib.hid hm
  clear hm w0
  have cA := fun u hu => allow_any a0 a1 a2 u hu
  have cB := fun u hu => allow_any a0 true a2 u hu
  have cC := fun u hu => allow_any a0 a1 false u hu
  have cM := fun u hu => most_any a0 u hu
  have cU := fun u => usual_any a0 u
  have cV := fun u => usual_any (uN a0 : Nat) u
  rw [uN_twice] at cV
  have cD := fun u hu => allow_any (uN a0 : Nat) a1 a2 u hu
  rw [allow_usual] at cD
  have h1 := less_same a0 a1 a2
  have h2 := less_down a0 a1 a2
  have h3 := less_most a0 a1 a2
  have h4 : 0 ≤ allowI a0 a1 a2 ∧ allowI a0 a1 a2 < 3 := lev_small _ _
  generalize allowI a0 true a2 = x at cB h1
  generalize allowI a0 a1 false = y at cC h2
  generalize mostI a0 = z at cM h3
  generalize allowI a0 a1 a2 = n at *
  generalize ((uN a0 : Nat) : Int) = u0 at *
  have q1 := decide_eq_true h1
  have q2 := decide_eq_true h2
  have q3 := decide_eq_true h3
  have q4 := decide_eq_true h4.1
  have q5 := decide_eq_true h4.2
  clear h1 h2 h3 h4
  go_enter Tryd.func4, Tryd.ntmps4
  go_wp2_with fail
  refine (awake_calls _ HT0.out).mono ?_
  rintro e X1 ⟨rfl, hB⟩
  have HT1 := Lib.hid (HT0.out.later hB)
  have HB1 := Lib.hid hB
  clear hB HT0
  go_wp2_with fail
  refine (cA _ HT1.out).mono ?_
  rintro e X2 ⟨rfl, hB⟩
  have HT2 := Lib.hid (HT1.out.later hB)
  have HB2 := Lib.hid (HB1.out.trans (hB.mono HB1.out.size))
  clear HB1
  clear hB HT1
  go_wp2_with fail
  refine (cB _ HT2.out).mono ?_
  rintro e X3 ⟨rfl, hB⟩
  have HT3 := Lib.hid (HT2.out.later hB)
  have HB3 := Lib.hid (HB2.out.trans (hB.mono HB2.out.size))
  clear HB2
  clear hB HT2
  go_wp2_with fail
  refine (cC _ HT3.out).mono ?_
  rintro e X4 ⟨rfl, hB⟩
  have HT4 := Lib.hid (HT3.out.later hB)
  have HB4 := Lib.hid (HB3.out.trans (hB.mono HB3.out.size))
  clear HB3
  clear hB HT3
  go_wp2_with fail
  refine (cM _ HT4.out).mono ?_
  rintro e X5 ⟨rfl, hB⟩
  have HT5 := Lib.hid (HT4.out.later hB)
  have HB5 := Lib.hid (HB4.out.trans (hB.mono HB4.out.size))
  clear HB4
  clear hB HT4
  go_wp2_with fail
  refine (cU _).mono ?_
  rintro e w' ⟨rfl, rfl⟩
  go_wp2_with fail
  refine (cD _ HT5.out).mono ?_
  rintro e X6 ⟨rfl, hB⟩
  have HT6 := Lib.hid (HT5.out.later hB)
  have HB6 := Lib.hid (HB5.out.trans (hB.mono HB5.out.size))
  clear HB5
  clear hB HT5
  go_wp2_with fail
  refine (cU _).mono ?_
  rintro e w' ⟨rfl, rfl⟩
  go_wp2_with fail
  refine (cV _).mono ?_
  rintro e w' ⟨rfl, rfl⟩
  go_wp2_with fail
  refine (cU _).mono ?_
  rintro e w' ⟨rfl, rfl⟩
  go_wp2
  go_ret
  exact ⟨rfl, HB6.out⟩

/-! ### The row's step -/
theorem reads (os : Os) {H : Type} (enc : TypeId × Value → H) : (DataW.whole enc Tryd.prog ((Card.laidWorld os).forCall (fun _ _ => 0) ⟨#[], #[.int .i64 0, .bool false, .bool false], []⟩).memory Tryd.f4.params.toList Rows.policyLessSpec.vars false (#[.int .i64 0, .bool false, .bool false] : Array Value).toList 8).map (fun x => (x.1, x.2.1)) = some ([.lit (.int .i64 0), .lit (.bool false), .lit (.bool false)], []) := by kernel_rfl
set_option maxRecDepth 100000 in
theorem lifted (os : Os) (started : os.Started) (H : Type) (enc : TypeId × Value → H) (F : Stop.Interp) :
    ReturnsInHanded {} Tryd.checked os 4 .any ((OpenSpec.ofChange Rows.policyLessSpec).preRow enc Tryd.prog Tryd.f4 Rows.policyLessRow.domain false Rows.policyLessRow.laid) (((OpenSpec.ofChange Rows.policyLessSpec).at F).post enc Tryd.prog Tryd.f4 false true false false) := by
  obtain ⟨⟨x1, x2, x3⟩, hx, hx1⟩ := Option.map_eq_some_iff.1 (reads os enc)
  simp only [Prod.mk.injEq] at hx1
  obtain ⟨rfl, rfl⟩ := hx1
  refine returnsInHanded_of_row (C := Tryd.checked) (s := OpenSpec.ofChange Rows.policyLessSpec) own started (by kernel_rfl) Tryd.func4
    (witness_row_at (enc := enc) (C := Tryd.checked) false (Card.laidWorld os) #[.int .i64 0, .bool false, .bool false] rfl (by kernel_rfl) (by kernel_rfl) (by kernel_rfl)
      (OpenSpec.preRow_of_cond 8 hx (by kernel_rfl) (fun k hk => by cases hk) (by kernel_rfl) (Card.laid_met os _))) ?_
  intro W base args ds gs before hval0 hW _ _ hw0 hL hsh _
  have hm := Card.tab_of hL
  have hval : ∀ (j : Nat) t v, Tryd.f4.params[j]? = some t → args[j]? = some v → Value.okWide Tryd.prog W .any base t v := hval0
  have hW' := hW
  obtain ⟨p, q, hA0, hV, rfl, hfz, hnd⟩ := hW
  have hA : DataW.TrodAll enc Tryd.prog W 0 (fun _ => true) true Tryd.f4.params.toList args.toList ds p := hA0
  rw [Tryd.params4] at hA hval
  obtain ⟨v0, vs0, d0, ds0, p0, q0, hargs0, rfl, rfl, t0, r0⟩ := trodAll_cons hA
  obtain ⟨v1, vs1, d1, ds1, p1, q1, hargs1, rfl, rfl, t1, r1⟩ := trodAll_cons r0
  obtain ⟨v2, vs2, d2, ds2, p2, q2, hargs2, rfl, rfl, t2, r2⟩ := trodAll_cons r1
  obtain ⟨rfl, rfl, rfl⟩ := trodAll_nil r2
  obtain rfl : args = #[v0, v1, v2] := by cases args; simp_all
  obtain ⟨rfl, rfl⟩ := trodVars_none hV
  obtain ⟨a0, rfl, rfl, rfl, w0⟩ := open_int Tryd.underlying3 (hval 0 3 v0 rfl rfl) t0
  obtain ⟨a1, rfl, rfl, rfl⟩ := Go.RowKit.open_bool Tryd.underlying4 (hval 1 4 v1 rfl rfl) t1
  obtain ⟨a2, rfl, rfl, rfl⟩ := Go.RowKit.open_bool Tryd.underlying4 (hval 2 4 v2 rfl rfl) t2
  clear hA0 hval0
  simp only [List.append_nil] at hW'
  refine (walk a0 a1 a2 w0 W hm ).mono fun e W' ⟨he, bel⟩ => ?_
  subst he
  exact ⟨_, rfl, _, _, _, [], _, [], hW', trodAll_mk1 (shut_bool Tryd.underlying4 _), (trodAll_cons_mk (shut_int Tryd.underlying3 w0) (trodAll_cons_mk (shut_bool Tryd.underlying4 a1) (trodAll_cons_mk (shut_bool Tryd.underlying4 a2) trodAll_mk0))), rfl, bel.frame _, fun h => by cases h⟩

theorem said : Rows.policyLessRow.holds Tryd.pinned (OpenSpec.ofChange Rows.policyLessSpec) :=
  OpenClaim.holds_of_cond 4 Tryd.f4 rfl rfl rfl rfl rfl rfl rfl ⟨rfl, rfl, rfl, rfl, rfl⟩ rfl rfl rfl rfl rfl (by kernel_rfl) Tryd.func4 (by kernel_rfl)
    (of_decide_eq_true (by kernel_rfl)) (by unfold Func.isWrapper; first | (rw [if_pos (by decide +kernel)]; kernel_rfl) | (rw [if_neg (by decide +kernel)]; exact ⟨rfl, rfl⟩))
    (fun os started H enc _ F => by rw [OpenClaim.pre_eq_preRow]; exact lifted os started H enc F)

/-- No parameter wants a stand-in; the program's own looks are off. -/
theorem plain (f : FuncId) (fn : Func) (hf : Tryd.pinned.checked.prog.funcNamed Rows.policyLessRow.func = some f) (hfn : Tryd.pinned.checked.prog.funcs[f]? = some fn) :
    false = Tryd.pinned.checked.prog.looks [] ∧ ∀ (j : Nat) t, fn.params[j]? = some t → Tryd.pinned.checked.prog.wantsStandIn t = false := by
  obtain rfl : f = 4 := Option.some.inj ((show Tryd.prog.funcNamed Rows.policyLessRow.func = some 4 by kernel_rfl).symm.trans hf) |>.symm
  obtain rfl : fn = Tryd.f4 := (Option.some.inj (Tryd.func4.symm.trans hfn)).symm
  refine ⟨by kernel_rfl, fun j t ht => ?_⟩
  rw [Tryd.params4] at ht
  obtain rfl | rfl : t = 3 ∨ t = 4 := by simpa using Array.mem_of_getElem? ht
  · exact (show Tryd.prog.wantsStandIn 3 = false by kernel_rfl)
  · exact (show Tryd.prog.wantsStandIn 4 = false by kernel_rfl)

/-- The statement: the card. -/
theorem proved : Rows.PolicyLessCardSaid :=
  Claim7.holds_tied_plain_at .later [] _ _ _ _ said (fun _ h => by cases h) (by kernel_rfl) (fun _ h => by cases h) policyLess_row_tie rfl ⟨rfl, rfl⟩ (by kernel_rfl) rfl plain (by kernel_rfl)
#print axioms proved
end Go.Proofs.YtbnbdijgdokhhaaDoor.policyLess
