/-
  For every input the law TokenTells (P14.1 to P14.3, the stage's theorem) answers true, and its arguments read as before: Split, Policy, Name, Last and Told answer as the document's own functions do. Conditions: the two tables of unicode/utf8 and package token's table of names lie as their texts lay them (listed by the card), internal/bytealg.MaxLen holds any int.
-/
import Derived.Test.YtbgebolamkfnlaaDoorCards
import Derived.Test.YtbgebolamkfnlaaDoorTie
import Derived.WalkKit
import Derived.ProofKit
import Derived.OpenShut
import Derived.ShutString
import Derived.ChangeOld
import Derived.Below
import Derived.SizedLaws
import Derived.Test.YtbgebolamkfnlaaDoorTkOpen
import Derived.Test.YtbgebolamkfnlaaDoorTkRefB
namespace Go.Proofs.YtbgebolamkfnlaaDoor.tokenTells
open Go.ChangeShapes Go.WideShapes Go.ChangeAt Go.RowKit
open Go.ChangeMaps (open_string shut_string)
open Go.Shelf
open Go.Proofs.YtbgebolamkfnlaaDoor.Token
set_option linter.unusedSimpArgs false
set_option linter.unusedVariables false

theorem own : ownKnob Tryd.prog.godebug = none := by kernel_rfl
theorem laidOut : laidOutB Tryd.prog = true := by kernel_rfl

open Head
set_option maxRecDepth 100000
set_option maxHeartbeats 16000000 in
theorem walk (a0 : ByteArray) (a1 : Int) (v2 : Value) (l2 : List F) (w0 : a0.size ≤ maxLen) (w1 : (Lit.int .i64 a1).wf = true) (m : Int) (w : World) (hm : Token.TokAt m w) (w2 : Flds w v2 l2) :
    Calls Tryd.prog 3 #[.string a0, .int .i64 a1, v2] w fun e w' => e = .returned (.bool true) ∧ Below w.heap.size w w' := by
  have HM0 := Lib.hid hm
  have HF2_0 := Lib.hid w2
  obtain ⟨ax2, cx2, rfl, -⟩ := w2
  clear hm
  go_enter Tryd.func3, Tryd.ntmps3
  go_wp2_with fail
  refine (Token.awake_calls m w HM0.out).mono ?_
  rintro e X1 ⟨rfl, hB⟩
  have HB1 := Lib.hid (hB)
  have HM1 := Lib.hid (HM0.out.later hB)
  have HF2_1 := Lib.hid (HF2_0.out.later hB)
  clear HM0 HF2_0
  clear hB
  go_wp2_with fail
  refine (few_any _ l2 X1 HF2_1.out).mono ?_
  rintro e X' ⟨rfl, rfl⟩
  obtain ⟨b2, hb2⟩ : ∃ b, fewF l2 = b := ⟨_, rfl⟩
  rw [hb2]
  cases b2
  rotate_left
  rotate_left
  · go_wp2
    go_ret
    exact ⟨rfl, HB1.out⟩
  obtain ⟨hl2, hs2⟩ := few_of hb2
  have HS2 := Lib.hid (few_big hs2)
  have HT2 := Lib.hid hs2
  clear hb2 hs2
  rcases Nat.lt_or_ge 600 a0.size with h0 | h0
  · have q : decide ((600 : Int) < (a0.size : Int)) = true := decide_eq_true (by omega)
    go_wp2
    go_ret
    exact ⟨rfl, HB1.out⟩
  have q0 : decide ((600 : Int) < (a0.size : Int)) = false := decide_eq_false (by omega)
  have cS := fun u (hu : Path.MaxAt m u) => Token.split_any a0 (by omega) m u hu
  have cSr := fun u => Token.refSplit_any a0 (by omega) u
  have cP := fun u (hu : Token.TokAt m u) => Token.policy_any a0 (by omega) m u hu
  have cPr := fun u => Token.refPolicy_any a0 (by omega) u
  have cN := fun u (hu : Token.TokAt m u) => Token.name_any a1 m u hu
  have cNr := fun u => Token.refName_any a1 u
  have cL := fun u (hu : Token.TokAt m u) => Token.last_any a0 (by omega) m u hu
  have cLr := fun u => Token.refLast_any a0 (by omega) u
  have hg := Token.get_size l2 Token.rp (by omega) HT2.out
  have cT := fun u (hm : Token.TokAt m u) (hu : Flds u (.slice ax2 l2.length cx2) l2) => Token.told_any _ l2 (by omega) HS2.out hg m u hm hu
  have cTr := fun u (hu : Flds u (.slice ax2 l2.length cx2) l2) => Token.refTold_any _ l2 hl2 HT2.out u hu
  generalize Token.splitL a0.data.toList = L at cS cSr
  generalize Token.polB a0.data.toList = p at cP cPr
  generalize Token.lastB a0.data.toList = q at cL cLr
  generalize Token.toldB l2 = t at cT cTr
  generalize tb (Token.nameI a1) = N at cN cNr
  clear hg
  go_wp2_with fail
  refine (cS _ HM1.out.max).mono ?_
  rintro e X2 ⟨vx, rfl, hS, hB⟩
  have HB2 := Lib.hid (Ascii.below2 HB1.out hB)
  have HM2 := Lib.hid (HM1.out.later hB)
  have HF2_2 := Lib.hid (HF2_1.out.later hB)
  have HX_2 := Lib.hid (hS)
  clear HB1 HM1 HF2_1
  clear hB hS
  go_wp2_with fail
  refine (cSr _).mono ?_
  rintro e X3 ⟨vy, rfl, hS, hB⟩
  have HB3 := Lib.hid (Ascii.below2 HB2.out hB)
  have HM3 := Lib.hid (HM2.out.later hB)
  have HF2_3 := Lib.hid (HF2_2.out.later hB)
  have HX_3 := Lib.hid (HX_2.out.later hB)
  have HY_3 := Lib.hid (hS)
  clear HB2 HM2 HF2_2 HX_2
  clear hB hS
  go_wp2_with fail
  have cE := Path.same_any _ _ _ _ X3 HX_3.out HY_3.out
  rw [show decide (L = L) = true from decide_eq_true rfl] at cE
  refine (cE).mono ?_
  rintro e X4 ⟨rfl, hB⟩
  clear HX_3
  clear HY_3
  have HB4 := Lib.hid (Ascii.below2 HB3.out hB)
  have HM4 := Lib.hid (HM3.out.later hB)
  have HF2_4 := Lib.hid (HF2_3.out.later hB)
  clear HB3 HM3 HF2_3
  clear hB 
  clear cE cS cSr
  go_wp2_with fail
  refine (cP _ HM4.out).mono ?_
  rintro e X5 ⟨rfl, hB⟩
  have HB5 := Lib.hid (Ascii.below2 HB4.out hB)
  have HM5 := Lib.hid (HM4.out.later hB)
  have HF2_5 := Lib.hid (HF2_4.out.later hB)
  clear HB4 HM4 HF2_4
  clear hB 
  go_wp2_with fail
  refine (cPr _).mono ?_
  rintro e X6 ⟨rfl, hB⟩
  have HB6 := Lib.hid (Ascii.below2 HB5.out hB)
  have HM6 := Lib.hid (HM5.out.later hB)
  have HF2_6 := Lib.hid (HF2_5.out.later hB)
  clear HB5 HM5 HF2_5
  clear hB 
  go_wp2_with fail
  refine (cN _ HM6.out).mono ?_
  rintro e w' ⟨rfl, rfl⟩
  go_wp2_with fail
  refine (cNr _).mono ?_
  rintro e w' ⟨rfl, rfl⟩
  go_wp2_with fail
  refine (cL _ HM6.out).mono ?_
  rintro e X7 ⟨rfl, hB⟩
  have HB7 := Lib.hid (Ascii.below2 HB6.out hB)
  have HM7 := Lib.hid (HM6.out.later hB)
  have HF2_7 := Lib.hid (HF2_6.out.later hB)
  clear HB6 HM6 HF2_6
  clear hB 
  go_wp2_with fail
  refine (cLr _).mono ?_
  rintro e X8 ⟨rfl, hB⟩
  have HB8 := Lib.hid (Ascii.below2 HB7.out hB)
  have HM8 := Lib.hid (HM7.out.later hB)
  have HF2_8 := Lib.hid (HF2_7.out.later hB)
  clear HB7 HM7 HF2_7
  clear hB 
  go_wp2_with fail
  refine (cT _ HM8.out HF2_8.out).mono ?_
  rintro e X9 ⟨rfl, hB⟩
  have HB9 := Lib.hid (Ascii.below2 HB8.out hB)
  have HM9 := Lib.hid (HM8.out.later hB)
  have HF2_9 := Lib.hid (HF2_8.out.later hB)
  clear HB8 HM8 HF2_8
  clear hB 
  go_wp2_with fail
  refine (cTr _ HF2_9.out).mono ?_
  rintro e X10 ⟨rfl, hB⟩
  have HB10 := Lib.hid (Ascii.below2 HB9.out hB)
  have HM10 := Lib.hid (HM9.out.later hB)
  have HF2_10 := Lib.hid (HF2_9.out.later hB)
  clear HB9 HM9 HF2_9
  clear hB 
  go_wp2
  go_ret
  exact ⟨rfl, HB10.out⟩

/-! ### The row's step -/
theorem reads (os : Os) {H : Type} (enc : TypeId × Value → H) : (DataW.whole enc Tryd.prog ((Card.laidWorld os).forCall (fun _ _ => 0) ⟨#[], #[.string ByteArray.empty, .int .i64 0, .slice none 0 0], []⟩).memory Tryd.f3.params.toList Rows.tokenTellsSpec.vars false (#[.string ByteArray.empty, .int .i64 0, .slice none 0 0] : Array Value).toList 8).map (fun x => (x.1, x.2.1)) = some ([.lit (.string []), .lit (.int .i64 0), .nil], []) := by kernel_rfl
set_option maxRecDepth 100000 in
theorem lifted (os : Os) (started : os.Started) (H : Type) (enc : TypeId × Value → H) (F : Stop.Interp) :
    ReturnsInHanded {} Tryd.checked os 3 .any ((OpenSpec.ofChange Rows.tokenTellsSpec).preRow enc Tryd.prog Tryd.f3 Rows.tokenTellsRow.domain false Rows.tokenTellsRow.laid) (((OpenSpec.ofChange Rows.tokenTellsSpec).at F).post enc Tryd.prog Tryd.f3 false true false false) := by
  obtain ⟨⟨x1, x2, x3⟩, hx, hx1⟩ := Option.map_eq_some_iff.1 (reads os enc)
  simp only [Prod.mk.injEq] at hx1
  obtain ⟨rfl, rfl⟩ := hx1
  refine returnsInHanded_of_row (C := Tryd.checked) (s := OpenSpec.ofChange Rows.tokenTellsSpec) own started (by kernel_rfl) Tryd.func3
    (witness_row_at (enc := enc) (C := Tryd.checked) false (Card.laidWorld os) #[.string ByteArray.empty, .int .i64 0, .slice none 0 0] rfl (by kernel_rfl) (by kernel_rfl) (by kernel_rfl)
      (OpenSpec.preRow_of_cond 8 hx (by kernel_rfl) (fun k hk => by cases hk) (by kernel_rfl) (Card.laid_met os _))) ?_
  intro W base args ds gs before hval0 hW _ _ hw0 hL hsh _
  obtain ⟨m, hm⟩ := Card.maxLen_int hsh
  have hm := Token.tok_of hm hL
  have hval : ∀ (j : Nat) t v, Tryd.f3.params[j]? = some t → args[j]? = some v → Value.okWide Tryd.prog W .any base t v := hval0
  have hW' := hW
  obtain ⟨p, q, hA0, hV, rfl, hfz, hnd⟩ := hW
  have hA : DataW.TrodAll enc Tryd.prog W 0 (fun _ => true) true Tryd.f3.params.toList args.toList ds p := hA0
  rw [Tryd.params3] at hA hval
  obtain ⟨v0, vs0, d0, ds0, p0, q0, hargs0, rfl, rfl, t0, r0⟩ := trodAll_cons hA
  obtain ⟨v1, vs1, d1, ds1, p1, q1, hargs1, rfl, rfl, t1, r1⟩ := trodAll_cons r0
  obtain ⟨v2, vs2, d2, ds2, p2, q2, hargs2, rfl, rfl, t2, r2⟩ := trodAll_cons r1
  obtain ⟨rfl, rfl, rfl⟩ := trodAll_nil r2
  obtain rfl : args = #[v0, v1, v2] := by cases args; simp_all
  obtain ⟨rfl, rfl⟩ := trodVars_none hV
  obtain ⟨a0, rfl, rfl, rfl, w0⟩ := open_string Tryd.underlying9 (hval 0 9 v0 rfl rfl) t0
  obtain ⟨a1, rfl, rfl, rfl, w1⟩ := open_int Tryd.underlying3 (hval 1 3 v1 rfl rfl) t1
  obtain ⟨a2, len2, cap2, rfl⟩ := okWide_slice Tryd.underlying22 (hval 2 22 v2 rfl rfl)
  have k2 := t2
  have lt2 : ∀ x ∈ p2, x.block < W.heap.size := by obtain ⟨m, hm⟩ := k2; exact DataW.trod_lt m _ _ _ hm
  obtain ⟨z2, w2⟩ := Head.open_flds t2
  clear hA0 hval0
  simp only [List.append_nil] at hW'
  refine (walk a0 a1 (.slice a2 len2 cap2) z2 w0 w1 m W hm w2).mono fun e W' ⟨he, bel⟩ => ?_
  subst he
  exact ⟨_, rfl, _, _, _, [], _, [], hW', trodAll_mk1 (shut_bool Tryd.underlying4 _), (trodAll_cons_mk (shut_string Tryd.underlying9 w0) (trodAll_cons_mk (shut_int Tryd.underlying3 w1) (trodAll_cons_mk (Below.trod laidOut (by kernel_rfl) (of_decide_eq_true (by kernel_rfl)) k2 bel lt2) trodAll_mk0))), rfl, bel.frame _, fun h => by cases h⟩

theorem said : Rows.tokenTellsRow.holds Tryd.pinned (OpenSpec.ofChange Rows.tokenTellsSpec) :=
  OpenClaim.holds_of_cond 3 Tryd.f3 rfl rfl rfl rfl rfl rfl rfl ⟨rfl, rfl, rfl, rfl, rfl⟩ rfl rfl rfl rfl rfl (by kernel_rfl) Tryd.func3 (by kernel_rfl)
    (of_decide_eq_true (by kernel_rfl)) (by unfold Func.isWrapper; first | (rw [if_pos (by decide +kernel)]; kernel_rfl) | (rw [if_neg (by decide +kernel)]; exact ⟨rfl, rfl⟩))
    (fun os started H enc _ F => by rw [OpenClaim.pre_eq_preRow]; exact lifted os started H enc F)

/-- No parameter wants a stand-in; the program's own looks are off. -/
theorem plain (f : FuncId) (fn : Func) (hf : Tryd.pinned.checked.prog.funcNamed Rows.tokenTellsRow.func = some f) (hfn : Tryd.pinned.checked.prog.funcs[f]? = some fn) :
    false = Tryd.pinned.checked.prog.looks [] ∧ ∀ (j : Nat) t, fn.params[j]? = some t → Tryd.pinned.checked.prog.wantsStandIn t = false := by
  obtain rfl : f = 3 := Option.some.inj ((show Tryd.prog.funcNamed Rows.tokenTellsRow.func = some 3 by kernel_rfl).symm.trans hf) |>.symm
  obtain rfl : fn = Tryd.f3 := (Option.some.inj (Tryd.func3.symm.trans hfn)).symm
  refine ⟨by kernel_rfl, fun j t ht => ?_⟩
  rw [Tryd.params3] at ht
  obtain rfl | rfl | rfl : t = 9 ∨ t = 3 ∨ t = 22 := by simpa using Array.mem_of_getElem? ht
  · exact (show Tryd.prog.wantsStandIn 9 = false by kernel_rfl)
  · exact (show Tryd.prog.wantsStandIn 3 = false by kernel_rfl)
  · exact (show Tryd.prog.wantsStandIn 22 = false by kernel_rfl)

/-- The statement: the card. -/
theorem proved : Rows.TokenTellsCardSaid :=
  Claim7.holds_tied_plain_at .later [] _ _ _ _ said (fun _ h => by cases h) (by kernel_rfl) (fun _ h => by cases h) tokenTells_row_tie rfl ⟨rfl, rfl⟩ (by kernel_rfl) rfl plain (by kernel_rfl)
#print axioms proved
end Go.Proofs.YtbgebolamkfnlaaDoor.tokenTells
