/-
  For every input the law TokenNames (P14.1, P14.2) answers true, and its arguments read as before: each policy but one has a name of its own, and that name, alone or with blanks beside it, is told. Conditions: the two tables of unicode/utf8 and package token's table of names lie as their texts lay them (listed by the card), internal/bytealg.MaxLen holds any int.
-/
import Derived.Test.YtbgebolamkfnlaaDoorCards
import Derived.Test.YtbgebolamkfnlaaDoorTie
import Derived.WalkKit
import Derived.ProofKit
import Derived.OpenShut
import Derived.ShutString
import Derived.ChangeOld
import Derived.Below
import Derived.SizedLaws
import Derived.Test.YtbgebolamkfnlaaDoorTkOpen
namespace Go.Proofs.YtbgebolamkfnlaaDoor.tokenNames
open Go.ChangeShapes Go.WideShapes Go.ChangeAt Go.RowKit
open Go.ChangeMaps (open_string shut_string)
open Go.Shelf
open Go.Proofs.YtbgebolamkfnlaaDoor.Token
set_option linter.unusedSimpArgs false
set_option linter.unusedVariables false

theorem own : ownKnob Tryd.prog.godebug = none := by kernel_rfl
theorem laidOut : laidOutB Tryd.prog = true := by kernel_rfl

open Head
set_option maxRecDepth 100000
set_option maxHeartbeats 16000000 in
theorem walk (a0 : Int) (a1 : Int) (w0 : (Lit.int .i64 a0).wf = true) (w1 : (Lit.int .i64 a1).wf = true) (m : Int) (w : World) (hm : Token.TokAt m w)  :
    Calls Tryd.prog 4 #[.int .i64 a0, .int .i64 a1] w fun e w' => e = .returned (.bool true) ∧ Below w.heap.size w w' := by
  have HM0 := Lib.hid hm
  clear hm
  go_enter Tryd.func4, Tryd.ntmps4
  go_wp2_with fail
  refine (Token.awake_calls m w HM0.out).mono ?_
  rintro e X1 ⟨rfl, hB⟩
  have HB1 := Lib.hid (hB)
  have HM1 := Lib.hid (HM0.out.later hB)
  clear HM0
  clear hB
  rcases Int.lt_or_le 0 a0 with h0 | h0
  rotate_left
  · have q0 : decide (a0 ≤ 0) = true := decide_eq_true h0
    have hn : Token.nameI a0 = [] := by
      unfold Token.nameI
      split
      · have : a0 = 0 := by omega
        subst this
        rfl
      · rfl
    have he : (tb (Token.nameI a0)).toList.isEmpty = true := by rw [tb_toList, hn]; rfl
    clear hn
    have cN := fun u (hu : Token.TokAt m u) => Token.name_any a0 m u hu
    generalize tb (Token.nameI a0) = X at he cN
    go_wp2_with fail
    refine (cN _ HM1.out).mono ?_
    rintro e w' ⟨rfl, rfl⟩
    go_wp2
    go_ret
    exact ⟨rfl, HB1.out⟩
  have q0 : decide (a0 ≤ 0) = false := decide_eq_false (by omega)
  rcases Int.lt_or_le a0 9 with h9 | h9
  rotate_left
  · have q9 : decide (9 ≤ a0) = true := decide_eq_true h9
    have hn : Token.nameI a0 = [] := by
      unfold Token.nameI
      split
      · have : a0 = 0 := by omega
        subst this
        rfl
      · rfl
    have he : (tb (Token.nameI a0)).toList.isEmpty = true := by rw [tb_toList, hn]; rfl
    clear hn
    have cN := fun u (hu : Token.TokAt m u) => Token.name_any a0 m u hu
    generalize tb (Token.nameI a0) = X at he cN
    go_wp2_with fail
    refine (cN _ HM1.out).mono ?_
    rintro e w' ⟨rfl, rfl⟩
    go_wp2
    go_ret
    exact ⟨rfl, HB1.out⟩
  have q9 : decide (9 ≤ a0) = false := decide_eq_false (by omega)
  obtain ⟨k, rfl⟩ : ∃ k : Nat, a0 = (k : Int) := ⟨a0.toNat, by omega⟩
  have hk9 : k < 9 := by omega
  have hk1 : 1 ≤ k := by omega
  have hne := Token.name_ne k hk9 hk1
  have cN := fun u (hu : Token.TokAt m u) => Token.name_any (k : Int) m u hu
  rw [show Token.nameI (k : Int) = Token.nameT k by unfold Token.nameI; rw [if_pos (by omega)]; rfl] at cN
  have cQ := fun u (hu : Token.TokAt m u) => Token.name_any a1 m u hu
  have hsz : (tb (Token.nameT k)).size ≤ 31 := by rw [tb_size]; exact Token.name_len k
  have he : (tb (Token.nameT k)).toList.isEmpty = false := by
    rw [tb_toList]
    cases h : Token.nameT k with
    | nil => exact absurd h hne
    | cons c t => rfl
  have cL := fun u => Ascii.lower_calls (tb (Token.nameT k)) (by unfold maxLen; omega) (by omega) u
  rw [tb_list, Token.name_low] at cL
  have hfold : (⟨(Token.nameT k).toArray⟩ : ByteArray) = tb (Token.nameT k) := rfl
  rw [hfold] at cL
  have cP := fun u (hu : Token.TokAt m u) => Token.policy_any (tb (Token.nameT k)) (by omega) m u hu
  rw [tb_list, Token.pol_back k hk9] at cP
  have hsz3 : (⟨#[32]⟩ ++ tb (Token.nameT k) ++ ⟨#[9]⟩ : ByteArray).size ≤ 1000000 := by rw [ByteArray.size_append, ByteArray.size_append]; show 1 + _ + 1 ≤ _; omega
  have cT := fun u (hu : Token.TokAt m u) => Token.last_any (⟨#[32]⟩ ++ tb (Token.nameT k) ++ ⟨#[9]⟩) hsz3 m u hu
  rw [show (⟨#[32]⟩ ++ tb (Token.nameT k) ++ ⟨#[9]⟩ : ByteArray).data.toList = 32 :: (Token.nameT k ++ [9]) by rw [Path.text_append, Path.text_append, tb_list]; rfl, Token.last_name k hk9] at cT
  have hqq : ((tb (Token.nameI a1)).toList == (tb (Token.nameT k)).toList) = ((k : Int) == a1) := by
    rw [tb_toList, tb_toList, Bool.eq_iff_iff, beq_iff_eq, beq_iff_eq]
    unfold Token.nameI
    constructor
    · intro h
      split at h
      · have := Token.name_inj a1.toNat k (by omega) hk9 h
        omega
      · exact absurd h.symm hne
    · rintro rfl
      rw [if_pos (by omega)]
      rfl
  have hzz : (((tb (Token.nameI a1)).toList == (tb (Token.nameT k)).toList) == ((k : Int) == a1)) = true := by rw [hqq]; exact beq_self_eq_true _
  clear hne hfold hsz3 hqq
  generalize tb (Token.nameT k) = X at cN he cL cP cT hzz hsz
  generalize tb (Token.nameI a1) = Y at cQ hzz
  go_wp2_with fail
  refine (cN _ HM1.out).mono ?_
  rintro e w' ⟨rfl, rfl⟩
  go_wp2_with fail
  refine (cL _).mono ?_
  rintro e X2 ⟨rfl, hB⟩
  have HB2 := Lib.hid (Ascii.below2 HB1.out hB)
  have HM2 := Lib.hid (HM1.out.later hB)
  clear HB1 HM1
  clear hB 
  go_wp2_with fail
  refine (cP _ HM2.out).mono ?_
  rintro e X3 ⟨rfl, hB⟩
  have HB3 := Lib.hid (Ascii.below2 HB2.out hB)
  have HM3 := Lib.hid (HM2.out.later hB)
  clear HB2 HM2
  clear hB 
  go_wp2_with fail
  refine (cT _ HM3.out).mono ?_
  rintro e X4 ⟨rfl, hB⟩
  have HB4 := Lib.hid (Ascii.below2 HB3.out hB)
  have HM4 := Lib.hid (HM3.out.later hB)
  clear HB3 HM3
  clear hB 
  go_wp2_with fail
  refine (cQ _ HM4.out).mono ?_
  rintro e w' ⟨rfl, rfl⟩
  go_wp2
  go_ret
  exact ⟨rfl, HB4.out⟩

/-! ### The row's step -/
theorem reads (os : Os) {H : Type} (enc : TypeId × Value → H) : (DataW.whole enc Tryd.prog ((Card.laidWorld os).forCall (fun _ _ => 0) ⟨#[], #[.int .i64 0, .int .i64 0], []⟩).memory Tryd.f4.params.toList Rows.tokenNamesSpec.vars false (#[.int .i64 0, .int .i64 0] : Array Value).toList 8).map (fun x => (x.1, x.2.1)) = some ([.lit (.int .i64 0), .lit (.int .i64 0)], []) := by kernel_rfl
set_option maxRecDepth 100000 in
theorem lifted (os : Os) (started : os.Started) (H : Type) (enc : TypeId × Value → H) (F : Stop.Interp) :
    ReturnsInHanded {} Tryd.checked os 4 .any ((OpenSpec.ofChange Rows.tokenNamesSpec).preRow enc Tryd.prog Tryd.f4 Rows.tokenNamesRow.domain false Rows.tokenNamesRow.laid) (((OpenSpec.ofChange Rows.tokenNamesSpec).at F).post enc Tryd.prog Tryd.f4 false true false false) := by
  obtain ⟨⟨x1, x2, x3⟩, hx, hx1⟩ := Option.map_eq_some_iff.1 (reads os enc)
  simp only [Prod.mk.injEq] at hx1
  obtain ⟨rfl, rfl⟩ := hx1
  refine returnsInHanded_of_row (C := Tryd.checked) (s := OpenSpec.ofChange Rows.tokenNamesSpec) own started (by kernel_rfl) Tryd.func4
    (witness_row_at (enc := enc) (C := Tryd.checked) false (Card.laidWorld os) #[.int .i64 0, .int .i64 0] rfl (by kernel_rfl) (by kernel_rfl) (by kernel_rfl)
      (OpenSpec.preRow_of_cond 8 hx (by kernel_rfl) (fun k hk => by cases hk) (by kernel_rfl) (Card.laid_met os _))) ?_
  intro W base args ds gs before hval0 hW _ _ hw0 hL hsh _
  obtain ⟨m, hm⟩ := Card.maxLen_int hsh
  have hm := Token.tok_of hm hL
  have hval : ∀ (j : Nat) t v, Tryd.f4.params[j]? = some t → args[j]? = some v → Value.okWide Tryd.prog W .any base t v := hval0
  have hW' := hW
  obtain ⟨p, q, hA0, hV, rfl, hfz, hnd⟩ := hW
  have hA : DataW.TrodAll enc Tryd.prog W 0 (fun _ => true) true Tryd.f4.params.toList args.toList ds p := hA0
  rw [Tryd.params4] at hA hval
  obtain ⟨v0, vs0, d0, ds0, p0, q0, hargs0, rfl, rfl, t0, r0⟩ := trodAll_cons hA
  obtain ⟨v1, vs1, d1, ds1, p1, q1, hargs1, rfl, rfl, t1, r1⟩ := trodAll_cons r0
  obtain ⟨rfl, rfl, rfl⟩ := trodAll_nil r1
  obtain rfl : args = #[v0, v1] := by cases args; simp_all
  obtain ⟨rfl, rfl⟩ := trodVars_none hV
  obtain ⟨a0, rfl, rfl, rfl, w0⟩ := open_int Tryd.underlying3 (hval 0 3 v0 rfl rfl) t0
  obtain ⟨a1, rfl, rfl, rfl, w1⟩ := open_int Tryd.underlying3 (hval 1 3 v1 rfl rfl) t1
  clear hA0 hval0
  simp only [List.append_nil] at hW'
  refine (walk a0 a1 w0 w1 m W hm ).mono fun e W' ⟨he, bel⟩ => ?_
  subst he
  exact ⟨_, rfl, _, _, _, [], _, [], hW', trodAll_mk1 (shut_bool Tryd.underlying4 _), (trodAll_cons_mk (shut_int Tryd.underlying3 w0) (trodAll_cons_mk (shut_int Tryd.underlying3 w1) trodAll_mk0)), rfl, bel.frame _, fun h => by cases h⟩

theorem said : Rows.tokenNamesRow.holds Tryd.pinned (OpenSpec.ofChange Rows.tokenNamesSpec) :=
  OpenClaim.holds_of_cond 4 Tryd.f4 rfl rfl rfl rfl rfl rfl rfl ⟨rfl, rfl, rfl, rfl, rfl⟩ rfl rfl rfl rfl rfl (by kernel_rfl) Tryd.func4 (by kernel_rfl)
    (of_decide_eq_true (by kernel_rfl)) (by unfold Func.isWrapper; first | (rw [if_pos (by decide +kernel)]; kernel_rfl) | (rw [if_neg (by decide +kernel)]; exact ⟨rfl, rfl⟩))
    (fun os started H enc _ F => by rw [OpenClaim.pre_eq_preRow]; exact lifted os started H enc F)

/-- No parameter wants a stand-in; the program's own looks are off. -/
theorem plain (f : FuncId) (fn : Func) (hf : Tryd.pinned.checked.prog.funcNamed Rows.tokenNamesRow.func = some f) (hfn : Tryd.pinned.checked.prog.funcs[f]? = some fn) :
    false = Tryd.pinned.checked.prog.looks [] ∧ ∀ (j : Nat) t, fn.params[j]? = some t → Tryd.pinned.checked.prog.wantsStandIn t = false := by
  obtain rfl : f = 4 := Option.some.inj ((show Tryd.prog.funcNamed Rows.tokenNamesRow.func = some 4 by kernel_rfl).symm.trans hf) |>.symm
  obtain rfl : fn = Tryd.f4 := (Option.some.inj (Tryd.func4.symm.trans hfn)).symm
  refine ⟨by kernel_rfl, fun j t ht => ?_⟩
  rw [Tryd.params4] at ht
  obtain rfl : t = 3 := by simpa using Array.mem_of_getElem? ht
  · exact (show Tryd.prog.wantsStandIn 3 = false by kernel_rfl)

/-- The statement: the card. -/
theorem proved : Rows.TokenNamesCardSaid :=
  Claim7.holds_tied_plain_at .later [] _ _ _ _ said (fun _ h => by cases h) (by kernel_rfl) (fun _ h => by cases h) tokenNames_row_tie rfl ⟨rfl, rfl⟩ (by kernel_rfl) rfl plain (by kernel_rfl)
#print axioms proved
end Go.Proofs.YtbgebolamkfnlaaDoor.tokenNames
