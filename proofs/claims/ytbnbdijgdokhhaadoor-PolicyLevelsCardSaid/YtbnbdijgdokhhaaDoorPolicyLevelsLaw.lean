/-
  For every input the law PolicyLevels (P15.2, P15.3) answers true, and its arguments read as before: what goes neither to another origin nor down is allowed the most of a policy, and the most is nothing of the first policy alone. Condition: package policy's table of levels lies as its text lays it (listed by the card).
-/
import Derived.Test.YtbnbdijgdokhhaaDoorCards
import Derived.Test.YtbnbdijgdokhhaaDoorTie
import Derived.WalkKit
import Derived.ProofKit
import Derived.OpenShut
import Derived.ShutString
import Derived.ChangeOld
import Derived.Below
import Derived.SizedLaws
import Derived.Test.YtbnbdijgdokhhaaDoorPlRef
import Derived.Test.YtbnbdijgdokhhaaDoorLaid
namespace Go.Proofs.YtbnbdijgdokhhaaDoor.policyLevels
open Go.ChangeShapes Go.WideShapes Go.ChangeAt Go.RowKit
open Go.ChangeMaps (open_string shut_string)
open Go.Shelf
open Go.Proofs.YtbnbdijgdokhhaaDoor.Policy
set_option linter.unusedSimpArgs false
set_option linter.unusedVariables false

theorem own : ownKnob Tryd.prog.godebug = none := by kernel_rfl
theorem laidOut : laidOutB Tryd.prog = true := by kernel_rfl

set_option maxRecDepth 100000
set_option maxHeartbeats 16000000 in
theorem walk (a0 : Int) (w0 : (Lit.int .i64 a0).wf = true) (w : World) (hm : TabAt w) :
    Calls Tryd.prog 7 #[.int .i64 a0] w fun e w' => e = .returned (.bool true) ∧ Below w.heap.size w w' := by
  have HT0 := Lib.hid hm
  clear hm w0
  have cA := fun u hu => allow_any a0 true false u hu
  rw [most_same] at cA
  have cM := fun u hu => most_any a0 u hu
  have h1 := most_none a0
  have h2 := most_origin a0
  generalize mostI a0 = m at *
  have q1 : ((m == 0) == (a0 == 1)) = true := by rw [h1]; exact beq_self_eq_true _
  go_enter Tryd.func7, Tryd.ntmps7
  go_wp2_with fail
  refine (awake_calls _ HT0.out).mono ?_
  rintro e X1 ⟨rfl, hB⟩
  have HT1 := Lib.hid (HT0.out.later hB)
  have HB1 := Lib.hid hB
  clear hB HT0
  by_cases h4 : a0 = 4
  · obtain rfl := h4
    obtain rfl : m = 1 := h2.2 (Or.inl rfl)
    clear h1 h2
    go_wp2_with fail
    refine (cM _ HT1.out).mono ?_
    rintro e X2 ⟨rfl, hB⟩
    have HT2 := Lib.hid (HT1.out.later hB)
    have HB2 := Lib.hid (HB1.out.trans (hB.mono HB1.out.size))
    clear HB1
    clear hB HT1
    go_wp2_with fail
    refine (cA _ HT2.out).mono ?_
    rintro e X3 ⟨rfl, hB⟩
    have HT3 := Lib.hid (HT2.out.later hB)
    have HB3 := Lib.hid (HB2.out.trans (hB.mono HB2.out.size))
    clear HB2
    clear hB HT2
    go_wp2
    go_ret
    exact ⟨rfl, HB3.out⟩
  by_cases h5 : a0 = 5
  · obtain rfl := h5
    obtain rfl : m = 1 := h2.2 (Or.inr rfl)
    clear h1 h2 h4
    go_wp2_with fail
    refine (cM _ HT1.out).mono ?_
    rintro e X2 ⟨rfl, hB⟩
    have HT2 := Lib.hid (HT1.out.later hB)
    have HB2 := Lib.hid (HB1.out.trans (hB.mono HB1.out.size))
    clear HB1
    clear hB HT1
    go_wp2_with fail
    refine (cA _ HT2.out).mono ?_
    rintro e X3 ⟨rfl, hB⟩
    have HT3 := Lib.hid (HT2.out.later hB)
    have HB3 := Lib.hid (HB2.out.trans (hB.mono HB2.out.size))
    clear HB2
    clear hB HT2
    go_wp2
    go_ret
    exact ⟨rfl, HB3.out⟩
  have q4 : (a0 == 4) = false := beq_eq_false_iff_ne.2 h4
  have q5 : (a0 == 5) = false := beq_eq_false_iff_ne.2 h5
  have q6 : (m == 1) = false := beq_eq_false_iff_ne.2 (fun e => (h2.1 e).elim h4 h5)
  clear h1 h2 h4 h5
  go_wp2_with fail
  refine (cM _ HT1.out).mono ?_
  rintro e X2 ⟨rfl, hB⟩
  have HT2 := Lib.hid (HT1.out.later hB)
  have HB2 := Lib.hid (HB1.out.trans (hB.mono HB1.out.size))
  clear HB1
  clear hB HT1
  go_wp2_with fail
  refine (cA _ HT2.out).mono ?_
  rintro e X3 ⟨rfl, hB⟩
  have HT3 := Lib.hid (HT2.out.later hB)
  have HB3 := Lib.hid (HB2.out.trans (hB.mono HB2.out.size))
  clear HB2
  clear hB HT2
  go_wp2
  go_ret
  exact ⟨rfl, HB3.out⟩

/-! ### The row's step -/
theorem reads (os : Os) {H : Type} (enc : TypeId × Value → H) : (DataW.whole enc Tryd.prog ((Card.laidWorld os).forCall (fun _ _ => 0) ⟨#[], #[.int .i64 0], []⟩).memory Tryd.f7.params.toList Rows.policyLevelsSpec.vars false (#[.int .i64 0] : Array Value).toList 8).map (fun x => (x.1, x.2.1)) = some ([.lit (.int .i64 0)], []) := by kernel_rfl
set_option maxRecDepth 100000 in
theorem lifted (os : Os) (started : os.Started) (H : Type) (enc : TypeId × Value → H) (F : Stop.Interp) :
    ReturnsInHanded {} Tryd.checked os 7 .any ((OpenSpec.ofChange Rows.policyLevelsSpec).preRow enc Tryd.prog Tryd.f7 Rows.policyLevelsRow.domain false Rows.policyLevelsRow.laid) (((OpenSpec.ofChange Rows.policyLevelsSpec).at F).post enc Tryd.prog Tryd.f7 false true false false) := by
  obtain ⟨⟨x1, x2, x3⟩, hx, hx1⟩ := Option.map_eq_some_iff.1 (reads os enc)
  simp only [Prod.mk.injEq] at hx1
  obtain ⟨rfl, rfl⟩ := hx1
  refine returnsInHanded_of_row (C := Tryd.checked) (s := OpenSpec.ofChange Rows.policyLevelsSpec) own started (by kernel_rfl) Tryd.func7
    (witness_row_at (enc := enc) (C := Tryd.checked) false (Card.laidWorld os) #[.int .i64 0] rfl (by kernel_rfl) (by kernel_rfl) (by kernel_rfl)
      (OpenSpec.preRow_of_cond 8 hx (by kernel_rfl) (fun k hk => by cases hk) (by kernel_rfl) (Card.laid_met os _))) ?_
  intro W base args ds gs before hval0 hW _ _ hw0 hL hsh _
  have hm := Card.tab_of hL
  have hval : ∀ (j : Nat) t v, Tryd.f7.params[j]? = some t → args[j]? = some v → Value.okWide Tryd.prog W .any base t v := hval0
  have hW' := hW
  obtain ⟨p, q, hA0, hV, rfl, hfz, hnd⟩ := hW
  have hA : DataW.TrodAll enc Tryd.prog W 0 (fun _ => true) true Tryd.f7.params.toList args.toList ds p := hA0
  rw [Tryd.params7] at hA hval
  obtain ⟨v0, vs0, d0, ds0, p0, q0, hargs0, rfl, rfl, t0, r0⟩ := trodAll_cons hA
  obtain ⟨rfl, rfl, rfl⟩ := trodAll_nil r0
  obtain rfl : args = #[v0] := by cases args; simp_all
  obtain ⟨rfl, rfl⟩ := trodVars_none hV
  obtain ⟨a0, rfl, rfl, rfl, w0⟩ := open_int Tryd.underlying3 (hval 0 3 v0 rfl rfl) t0
  clear hA0 hval0
  simp only [List.append_nil] at hW'
  refine (walk a0 w0 W hm ).mono fun e W' ⟨he, bel⟩ => ?_
  subst he
  exact ⟨_, rfl, _, _, _, [], _, [], hW', trodAll_mk1 (shut_bool Tryd.underlying4 _), (trodAll_cons_mk (shut_int Tryd.underlying3 w0) trodAll_mk0), rfl, bel.frame _, fun h => by cases h⟩

theorem said : Rows.policyLevelsRow.holds Tryd.pinned (OpenSpec.ofChange Rows.policyLevelsSpec) :=
  OpenClaim.holds_of_cond 7 Tryd.f7 rfl rfl rfl rfl rfl rfl rfl ⟨rfl, rfl, rfl, rfl, rfl⟩ rfl rfl rfl rfl rfl (by kernel_rfl) Tryd.func7 (by kernel_rfl)
    (of_decide_eq_true (by kernel_rfl)) (by unfold Func.isWrapper; first | (rw [if_pos (by decide +kernel)]; kernel_rfl) | (rw [if_neg (by decide +kernel)]; exact ⟨rfl, rfl⟩))
    (fun os started H enc _ F => by rw [OpenClaim.pre_eq_preRow]; exact lifted os started H enc F)

/-- No parameter wants a stand-in; the program's own looks are off. -/
theorem plain (f : FuncId) (fn : Func) (hf : Tryd.pinned.checked.prog.funcNamed Rows.policyLevelsRow.func = some f) (hfn : Tryd.pinned.checked.prog.funcs[f]? = some fn) :
    false = Tryd.pinned.checked.prog.looks [] ∧ ∀ (j : Nat) t, fn.params[j]? = some t → Tryd.pinned.checked.prog.wantsStandIn t = false := by
  obtain rfl : f = 7 := Option.some.inj ((show Tryd.prog.funcNamed Rows.policyLevelsRow.func = some 7 by kernel_rfl).symm.trans hf) |>.symm
  obtain rfl : fn = Tryd.f7 := (Option.some.inj (Tryd.func7.symm.trans hfn)).symm
  refine ⟨by kernel_rfl, fun j t ht => ?_⟩
  rw [Tryd.params7] at ht
  obtain rfl : t = 3 := by simpa using Array.mem_of_getElem? ht
  · exact (show Tryd.prog.wantsStandIn 3 = false by kernel_rfl)

/-- The statement: the card. -/
theorem proved : Rows.PolicyLevelsCardSaid :=
  Claim7.holds_tied_plain_at .later [] _ _ _ _ said (fun _ h => by cases h) (by kernel_rfl) (fun _ h => by cases h) policyLevels_row_tie rfl ⟨rfl, rfl⟩ (by kernel_rfl) rfl plain (by kernel_rfl)
#print axioms proved
end Go.Proofs.YtbnbdijgdokhhaaDoor.policyLevels
