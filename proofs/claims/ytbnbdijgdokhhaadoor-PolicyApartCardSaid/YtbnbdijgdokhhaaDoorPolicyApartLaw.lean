/-
  For every input the law PolicyApart (P15.2, P15.3) answers true, and its arguments read as before: no two policies that have names allow the same in all ways, and levels meet in no order, with the greatest one each being itself. Condition: package policy's table of levels lies as its text lays it (listed by the card).
-/
import Derived.Test.YtbnbdijgdokhhaaDoorCards
import Derived.Test.YtbnbdijgdokhhaaDoorTie
import Derived.WalkKit
import Derived.ProofKit
import Derived.OpenShut
import Derived.ShutString
import Derived.ChangeOld
import Derived.Below
import Derived.SizedLaws
import Derived.Test.YtbnbdijgdokhhaaDoorPlRef
import Derived.Test.YtbnbdijgdokhhaaDoorLaid
namespace Go.Proofs.YtbnbdijgdokhhaaDoor.policyApart
open Go.ChangeShapes Go.WideShapes Go.ChangeAt Go.RowKit
open Go.ChangeMaps (open_string shut_string)
open Go.Shelf
open Go.Proofs.YtbnbdijgdokhhaaDoor.Policy
set_option linter.unusedSimpArgs false
set_option linter.unusedVariables false

theorem own : ownKnob Tryd.prog.godebug = none := by kernel_rfl
theorem laidOut : laidOutB Tryd.prog = true := by kernel_rfl

set_option maxRecDepth 100000
set_option maxHeartbeats 16000000 in
theorem walk (a0 : Int) (a1 : Int) (a2 : Int) (a3 : Int) (a4 : Int) (w0 : (Lit.int .i64 a0).wf = true) (w1 : (Lit.int .i64 a1).wf = true) (w2 : (Lit.int .i64 a2).wf = true) (w3 : (Lit.int .i64 a3).wf = true) (w4 : (Lit.int .i64 a4).wf = true) (w : World) (hm : TabAt w) :
    Calls Tryd.prog 6 #[.int .i64 a0, .int .i64 a1, .int .i64 a2, .int .i64 a3, .int .i64 a4] w fun e w' => e = .returned (.bool true) ∧ Below w.heap.size w w' := by
  have HT0 := Lib.hid hm
  clear hm w0 w1 w2 w3 w4
  have cA := fun u hu => strict_any a0 a1 u hu
  have cB := fun u hu => strict_any a1 a0 u hu
  have cM := fun u => meet_any a2 a3 u
  have cN := fun u => meet_any a3 a2 u
  rw [meet_swap a3 a2] at cN
  have cO := fun u => meet_any (meetI a2 a3) a4 u
  have cP := fun u => meet_any a3 a4 u
  have cQ := fun u => meet_any a2 (meetI a3 a4) u
  rw [← meet_three] at cQ
  have cR := fun u => meet_any a2 2 u
  have cS := fun u => meet_any a2 a2 u
  generalize meetI (meetI a2 a3) a4 = x at *
  generalize meetI a2 a3 = y at *
  generalize meetI a3 a4 = z at *
  go_enter Tryd.func6, Tryd.ntmps6
  go_wp2_with fail
  refine (awake_calls _ HT0.out).mono ?_
  rintro e X1 ⟨rfl, hB⟩
  have HT1 := Lib.hid (HT0.out.later hB)
  have HB1 := Lib.hid hB
  clear hB HT0
  by_cases h0 : a0 < 1
  · have q0 : decide (a0 < 1) = true := decide_eq_true h0
    clear h0
    go_wp2
    go_ret
    exact ⟨rfl, HB1.out⟩
  have q0 : decide (a0 < 1) = false := decide_eq_false h0
  by_cases h1 : 8 < a0
  · have q1 : decide (8 < a0) = true := decide_eq_true h1
    clear h0 h1
    go_wp2
    go_ret
    exact ⟨rfl, HB1.out⟩
  have q1 : decide (8 < a0) = false := decide_eq_false h1
  by_cases h2 : a1 < 1
  · have q2 : decide (a1 < 1) = true := decide_eq_true h2
    clear h0 h1 h2
    go_wp2
    go_ret
    exact ⟨rfl, HB1.out⟩
  have q2 : decide (a1 < 1) = false := decide_eq_false h2
  by_cases h3 : 8 < a1
  · have q3 : decide (8 < a1) = true := decide_eq_true h3
    clear h0 h1 h2 h3
    go_wp2
    go_ret
    exact ⟨rfl, HB1.out⟩
  have q3 : decide (8 < a1) = false := decide_eq_false h3
  have HS := strict_apart a0 a1 (by omega) (by omega)
  clear h0 h1 h2 h3
  generalize strictB a0 a1 = p at *
  generalize strictB a1 a0 = r at *
  cases p
  · have q4 : (a0 == a1) = false := HS.symm
    clear HS
    by_cases h5 : 0 ≤ a2
    · have q5 : decide (0 ≤ a2) = true := decide_eq_true h5
      by_cases h6 : a2 < 3
      · have q6 : decide (a2 < 3) = true := decide_eq_true h6
        rw [meet_full a2 ⟨h5, h6⟩] at cR
        rw [meet_self a2 ⟨h5, h6⟩] at cS
        clear h5 h6
        go_wp2_with fail
        refine (cA _ HT1.out).mono ?_
        rintro e X2 ⟨rfl, hB⟩
        have HT2 := Lib.hid (HT1.out.later hB)
        have HB2 := Lib.hid (HB1.out.trans (hB.mono HB1.out.size))
        clear HB1
        clear hB HT1
        go_wp2_with fail
        refine (cM _).mono ?_
        rintro e w' ⟨rfl, rfl⟩
        go_wp2_with fail
        refine (cN _).mono ?_
        rintro e w' ⟨rfl, rfl⟩
        go_wp2_with fail
        refine (cM _).mono ?_
        rintro e w' ⟨rfl, rfl⟩
        go_wp2_with fail
        refine (cO _).mono ?_
        rintro e w' ⟨rfl, rfl⟩
        go_wp2_with fail
        refine (cP _).mono ?_
        rintro e w' ⟨rfl, rfl⟩
        go_wp2_with fail
        refine (cQ _).mono ?_
        rintro e w' ⟨rfl, rfl⟩
        go_wp2_with fail
        refine (cR _).mono ?_
        rintro e w' ⟨rfl, rfl⟩
        go_wp2_with fail
        refine (cS _).mono ?_
        rintro e w' ⟨rfl, rfl⟩
        go_wp2
        go_ret
        exact ⟨rfl, HB2.out⟩
      have q6 : decide (a2 < 3) = false := decide_eq_false h6
      clear h5 h6
      go_wp2_with fail
      refine (cA _ HT1.out).mono ?_
      rintro e X2 ⟨rfl, hB⟩
      have HT2 := Lib.hid (HT1.out.later hB)
      have HB2 := Lib.hid (HB1.out.trans (hB.mono HB1.out.size))
      clear HB1
      clear hB HT1
      go_wp2_with fail
      refine (cM _).mono ?_
      rintro e w' ⟨rfl, rfl⟩
      go_wp2_with fail
      refine (cN _).mono ?_
      rintro e w' ⟨rfl, rfl⟩
      go_wp2_with fail
      refine (cM _).mono ?_
      rintro e w' ⟨rfl, rfl⟩
      go_wp2_with fail
      refine (cO _).mono ?_
      rintro e w' ⟨rfl, rfl⟩
      go_wp2_with fail
      refine (cP _).mono ?_
      rintro e w' ⟨rfl, rfl⟩
      go_wp2_with fail
      refine (cQ _).mono ?_
      rintro e w' ⟨rfl, rfl⟩
      go_wp2
      go_ret
      exact ⟨rfl, HB2.out⟩
    have q5 : decide (0 ≤ a2) = false := decide_eq_false h5
    clear h5
    go_wp2_with fail
    refine (cA _ HT1.out).mono ?_
    rintro e X2 ⟨rfl, hB⟩
    have HT2 := Lib.hid (HT1.out.later hB)
    have HB2 := Lib.hid (HB1.out.trans (hB.mono HB1.out.size))
    clear HB1
    clear hB HT1
    go_wp2_with fail
    refine (cM _).mono ?_
    rintro e w' ⟨rfl, rfl⟩
    go_wp2_with fail
    refine (cN _).mono ?_
    rintro e w' ⟨rfl, rfl⟩
    go_wp2_with fail
    refine (cM _).mono ?_
    rintro e w' ⟨rfl, rfl⟩
    go_wp2_with fail
    refine (cO _).mono ?_
    rintro e w' ⟨rfl, rfl⟩
    go_wp2_with fail
    refine (cP _).mono ?_
    rintro e w' ⟨rfl, rfl⟩
    go_wp2_with fail
    refine (cQ _).mono ?_
    rintro e w' ⟨rfl, rfl⟩
    go_wp2
    go_ret
    exact ⟨rfl, HB2.out⟩
  have q4 : (r == (a0 == a1)) = true := by rw [show r = (a0 == a1) from HS]; exact beq_self_eq_true _
  clear HS
  by_cases h5 : 0 ≤ a2
  · have q5 : decide (0 ≤ a2) = true := decide_eq_true h5
    by_cases h6 : a2 < 3
    · have q6 : decide (a2 < 3) = true := decide_eq_true h6
      rw [meet_full a2 ⟨h5, h6⟩] at cR
      rw [meet_self a2 ⟨h5, h6⟩] at cS
      clear h5 h6
      go_wp2_with fail
      refine (cA _ HT1.out).mono ?_
      rintro e X2 ⟨rfl, hB⟩
      have HT2 := Lib.hid (HT1.out.later hB)
      have HB2 := Lib.hid (HB1.out.trans (hB.mono HB1.out.size))
      clear HB1
      clear hB HT1
      go_wp2_with fail
      refine (cB _ HT2.out).mono ?_
      rintro e X3 ⟨rfl, hB⟩
      have HT3 := Lib.hid (HT2.out.later hB)
      have HB3 := Lib.hid (HB2.out.trans (hB.mono HB2.out.size))
      clear HB2
      clear hB HT2
      go_wp2_with fail
      refine (cM _).mono ?_
      rintro e w' ⟨rfl, rfl⟩
      go_wp2_with fail
      refine (cN _).mono ?_
      rintro e w' ⟨rfl, rfl⟩
      go_wp2_with fail
      refine (cM _).mono ?_
      rintro e w' ⟨rfl, rfl⟩
      go_wp2_with fail
      refine (cO _).mono ?_
      rintro e w' ⟨rfl, rfl⟩
      go_wp2_with fail
      refine (cP _).mono ?_
      rintro e w' ⟨rfl, rfl⟩
      go_wp2_with fail
      refine (cQ _).mono ?_
      rintro e w' ⟨rfl, rfl⟩
      go_wp2_with fail
      refine (cR _).mono ?_
      rintro e w' ⟨rfl, rfl⟩
      go_wp2_with fail
      refine (cS _).mono ?_
      rintro e w' ⟨rfl, rfl⟩
      go_wp2
      go_ret
      exact ⟨rfl, HB3.out⟩
    have q6 : decide (a2 < 3) = false := decide_eq_false h6
    clear h5 h6
    go_wp2_with fail
    refine (cA _ HT1.out).mono ?_
    rintro e X2 ⟨rfl, hB⟩
    have HT2 := Lib.hid (HT1.out.later hB)
    have HB2 := Lib.hid (HB1.out.trans (hB.mono HB1.out.size))
    clear HB1
    clear hB HT1
    go_wp2_with fail
    refine (cB _ HT2.out).mono ?_
    rintro e X3 ⟨rfl, hB⟩
    have HT3 := Lib.hid (HT2.out.later hB)
    have HB3 := Lib.hid (HB2.out.trans (hB.mono HB2.out.size))
    clear HB2
    clear hB HT2
    go_wp2_with fail
    refine (cM _).mono ?_
    rintro e w' ⟨rfl, rfl⟩
    go_wp2_with fail
    refine (cN _).mono ?_
    rintro e w' ⟨rfl, rfl⟩
    go_wp2_with fail
    refine (cM _).mono ?_
    rintro e w' ⟨rfl, rfl⟩
    go_wp2_with fail
    refine (cO _).mono ?_
    rintro e w' ⟨rfl, rfl⟩
    go_wp2_with fail
    refine (cP _).mono ?_
    rintro e w' ⟨rfl, rfl⟩
    go_wp2_with fail
    refine (cQ _).mono ?_
    rintro e w' ⟨rfl, rfl⟩
    go_wp2
    go_ret
    exact ⟨rfl, HB3.out⟩
  have q5 : decide (0 ≤ a2) = false := decide_eq_false h5
  clear h5
  go_wp2_with fail
  refine (cA _ HT1.out).mono ?_
  rintro e X2 ⟨rfl, hB⟩
  have HT2 := Lib.hid (HT1.out.later hB)
  have HB2 := Lib.hid (HB1.out.trans (hB.mono HB1.out.size))
  clear HB1
  clear hB HT1
  go_wp2_with fail
  refine (cB _ HT2.out).mono ?_
  rintro e X3 ⟨rfl, hB⟩
  have HT3 := Lib.hid (HT2.out.later hB)
  have HB3 := Lib.hid (HB2.out.trans (hB.mono HB2.out.size))
  clear HB2
  clear hB HT2
  go_wp2_with fail
  refine (cM _).mono ?_
  rintro e w' ⟨rfl, rfl⟩
  go_wp2_with fail
  refine (cN _).mono ?_
  rintro e w' ⟨rfl, rfl⟩
  go_wp2_with fail
  refine (cM _).mono ?_
  rintro e w' ⟨rfl, rfl⟩
  go_wp2_with fail
  refine (cO _).mono ?_
  rintro e w' ⟨rfl, rfl⟩
  go_wp2_with fail
  refine (cP _).mono ?_
  rintro e w' ⟨rfl, rfl⟩
  go_wp2_with fail
  refine (cQ _).mono ?_
  rintro e w' ⟨rfl, rfl⟩
  go_wp2
  go_ret
  exact ⟨rfl, HB3.out⟩

/-! ### The row's step -/
theorem reads (os : Os) {H : Type} (enc : TypeId × Value → H) : (DataW.whole enc Tryd.prog ((Card.laidWorld os).forCall (fun _ _ => 0) ⟨#[], #[.int .i64 0, .int .i64 0, .int .i64 0, .int .i64 0, .int .i64 0], []⟩).memory Tryd.f6.params.toList Rows.policyApartSpec.vars false (#[.int .i64 0, .int .i64 0, .int .i64 0, .int .i64 0, .int .i64 0] : Array Value).toList 8).map (fun x => (x.1, x.2.1)) = some ([.lit (.int .i64 0), .lit (.int .i64 0), .lit (.int .i64 0), .lit (.int .i64 0), .lit (.int .i64 0)], []) := by kernel_rfl
set_option maxRecDepth 100000 in
theorem lifted (os : Os) (started : os.Started) (H : Type) (enc : TypeId × Value → H) (F : Stop.Interp) :
    ReturnsInHanded {} Tryd.checked os 6 .any ((OpenSpec.ofChange Rows.policyApartSpec).preRow enc Tryd.prog Tryd.f6 Rows.policyApartRow.domain false Rows.policyApartRow.laid) (((OpenSpec.ofChange Rows.policyApartSpec).at F).post enc Tryd.prog Tryd.f6 false true false false) := by
  obtain ⟨⟨x1, x2, x3⟩, hx, hx1⟩ := Option.map_eq_some_iff.1 (reads os enc)
  simp only [Prod.mk.injEq] at hx1
  obtain ⟨rfl, rfl⟩ := hx1
  refine returnsInHanded_of_row (C := Tryd.checked) (s := OpenSpec.ofChange Rows.policyApartSpec) own started (by kernel_rfl) Tryd.func6
    (witness_row_at (enc := enc) (C := Tryd.checked) false (Card.laidWorld os) #[.int .i64 0, .int .i64 0, .int .i64 0, .int .i64 0, .int .i64 0] rfl (by kernel_rfl) (by kernel_rfl) (by kernel_rfl)
      (OpenSpec.preRow_of_cond 8 hx (by kernel_rfl) (fun k hk => by cases hk) (by kernel_rfl) (Card.laid_met os _))) ?_
  intro W base args ds gs before hval0 hW _ _ hw0 hL hsh _
  have hm := Card.tab_of hL
  have hval : ∀ (j : Nat) t v, Tryd.f6.params[j]? = some t → args[j]? = some v → Value.okWide Tryd.prog W .any base t v := hval0
  have hW' := hW
  obtain ⟨p, q, hA0, hV, rfl, hfz, hnd⟩ := hW
  have hA : DataW.TrodAll enc Tryd.prog W 0 (fun _ => true) true Tryd.f6.params.toList args.toList ds p := hA0
  rw [Tryd.params6] at hA hval
  obtain ⟨v0, vs0, d0, ds0, p0, q0, hargs0, rfl, rfl, t0, r0⟩ := trodAll_cons hA
  obtain ⟨v1, vs1, d1, ds1, p1, q1, hargs1, rfl, rfl, t1, r1⟩ := trodAll_cons r0
  obtain ⟨v2, vs2, d2, ds2, p2, q2, hargs2, rfl, rfl, t2, r2⟩ := trodAll_cons r1
  obtain ⟨v3, vs3, d3, ds3, p3, q3, hargs3, rfl, rfl, t3, r3⟩ := trodAll_cons r2
  obtain ⟨v4, vs4, d4, ds4, p4, q4, hargs4, rfl, rfl, t4, r4⟩ := trodAll_cons r3
  obtain ⟨rfl, rfl, rfl⟩ := trodAll_nil r4
  obtain rfl : args = #[v0, v1, v2, v3, v4] := by cases args; simp_all
  obtain ⟨rfl, rfl⟩ := trodVars_none hV
  obtain ⟨a0, rfl, rfl, rfl, w0⟩ := open_int Tryd.underlying3 (hval 0 3 v0 rfl rfl) t0
  obtain ⟨a1, rfl, rfl, rfl, w1⟩ := open_int Tryd.underlying3 (hval 1 3 v1 rfl rfl) t1
  obtain ⟨a2, rfl, rfl, rfl, w2⟩ := open_int Tryd.underlying3 (hval 2 3 v2 rfl rfl) t2
  obtain ⟨a3, rfl, rfl, rfl, w3⟩ := open_int Tryd.underlying3 (hval 3 3 v3 rfl rfl) t3
  obtain ⟨a4, rfl, rfl, rfl, w4⟩ := open_int Tryd.underlying3 (hval 4 3 v4 rfl rfl) t4
  clear hA0 hval0
  simp only [List.append_nil] at hW'
  refine (walk a0 a1 a2 a3 a4 w0 w1 w2 w3 w4 W hm ).mono fun e W' ⟨he, bel⟩ => ?_
  subst he
  exact ⟨_, rfl, _, _, _, [], _, [], hW', trodAll_mk1 (shut_bool Tryd.underlying4 _), (trodAll_cons_mk (shut_int Tryd.underlying3 w0) (trodAll_cons_mk (shut_int Tryd.underlying3 w1) (trodAll_cons_mk (shut_int Tryd.underlying3 w2) (trodAll_cons_mk (shut_int Tryd.underlying3 w3) (trodAll_cons_mk (shut_int Tryd.underlying3 w4) trodAll_mk0))))), rfl, bel.frame _, fun h => by cases h⟩

theorem said : Rows.policyApartRow.holds Tryd.pinned (OpenSpec.ofChange Rows.policyApartSpec) :=
  OpenClaim.holds_of_cond 6 Tryd.f6 rfl rfl rfl rfl rfl rfl rfl ⟨rfl, rfl, rfl, rfl, rfl⟩ rfl rfl rfl rfl rfl (by kernel_rfl) Tryd.func6 (by kernel_rfl)
    (of_decide_eq_true (by kernel_rfl)) (by unfold Func.isWrapper; first | (rw [if_pos (by decide +kernel)]; kernel_rfl) | (rw [if_neg (by decide +kernel)]; exact ⟨rfl, rfl⟩))
    (fun os started H enc _ F => by rw [OpenClaim.pre_eq_preRow]; exact lifted os started H enc F)

/-- No parameter wants a stand-in; the program's own looks are off. -/
theorem plain (f : FuncId) (fn : Func) (hf : Tryd.pinned.checked.prog.funcNamed Rows.policyApartRow.func = some f) (hfn : Tryd.pinned.checked.prog.funcs[f]? = some fn) :
    false = Tryd.pinned.checked.prog.looks [] ∧ ∀ (j : Nat) t, fn.params[j]? = some t → Tryd.pinned.checked.prog.wantsStandIn t = false := by
  obtain rfl : f = 6 := Option.some.inj ((show Tryd.prog.funcNamed Rows.policyApartRow.func = some 6 by kernel_rfl).symm.trans hf) |>.symm
  obtain rfl : fn = Tryd.f6 := (Option.some.inj (Tryd.func6.symm.trans hfn)).symm
  refine ⟨by kernel_rfl, fun j t ht => ?_⟩
  rw [Tryd.params6] at ht
  obtain rfl : t = 3 := by simpa using Array.mem_of_getElem? ht
  · exact (show Tryd.prog.wantsStandIn 3 = false by kernel_rfl)

/-- The statement: the card. -/
theorem proved : Rows.PolicyApartCardSaid :=
  Claim7.holds_tied_plain_at .later [] _ _ _ _ said (fun _ h => by cases h) (by kernel_rfl) (fun _ h => by cases h) policyApart_row_tie rfl ⟨rfl, rfl⟩ (by kernel_rfl) rfl plain (by kernel_rfl)
#print axioms proved
end Go.Proofs.YtbnbdijgdokhhaaDoor.policyApart
