/-
  For every input the law TokenPolicy (P14.1) answers true, and its arguments read as before: a text names one policy at most, and with anything behind it another one or none. Conditions: the two tables of unicode/utf8 and package token's table of names lie as their texts lay them (listed by the card), internal/bytealg.MaxLen holds any int.
-/
import Derived.Test.YtbgebolamkfnlaaDoorCards
import Derived.Test.YtbgebolamkfnlaaDoorTie
import Derived.WalkKit
import Derived.ProofKit
import Derived.OpenShut
import Derived.ShutString
import Derived.ChangeOld
import Derived.Below
import Derived.SizedLaws
import Derived.Test.YtbgebolamkfnlaaDoorTkOpen
namespace Go.Proofs.YtbgebolamkfnlaaDoor.tokenPolicy
open Go.ChangeShapes Go.WideShapes Go.ChangeAt Go.RowKit
open Go.ChangeMaps (open_string shut_string)
open Go.Shelf
open Go.Proofs.YtbgebolamkfnlaaDoor.Token
set_option linter.unusedSimpArgs false
set_option linter.unusedVariables false

theorem own : ownKnob Tryd.prog.godebug = none := by kernel_rfl
theorem laidOut : laidOutB Tryd.prog = true := by kernel_rfl

open Head
set_option maxRecDepth 100000
set_option maxHeartbeats 16000000 in
theorem walk (a0 : ByteArray) (a1 : ByteArray) (w0 : a0.size ≤ maxLen) (w1 : a1.size ≤ maxLen) (m : Int) (w : World) (hm : Token.TokAt m w)  :
    Calls Tryd.prog 8 #[.string a0, .string a1] w fun e w' => e = .returned (.bool true) ∧ Below w.heap.size w w' := by
  have HM0 := Lib.hid hm
  clear hm
  go_enter Tryd.func8, Tryd.ntmps8
  go_wp2_with fail
  refine (Token.awake_calls m w HM0.out).mono ?_
  rintro e X1 ⟨rfl, hB⟩
  have HB1 := Lib.hid (hB)
  have HM1 := Lib.hid (HM0.out.later hB)
  clear HM0
  clear hB
  rcases Nat.lt_or_ge 100 a0.size with h0 | h0
  · have q : decide ((100 : Int) < (a0.size : Int)) = true := decide_eq_true (by omega)
    go_wp2
    go_ret
    exact ⟨rfl, HB1.out⟩
  have q0 : decide ((100 : Int) < (a0.size : Int)) = false := decide_eq_false (by omega)
  rcases Nat.lt_or_ge 100 a1.size with h1 | h1
  · have q : decide ((100 : Int) < (a1.size : Int)) = true := decide_eq_true (by omega)
    go_wp2
    go_ret
    exact ⟨rfl, HB1.out⟩
  have q1 : decide ((100 : Int) < (a1.size : Int)) = false := decide_eq_false (by omega)
  have hs01 : (a0 ++ a1).size ≤ 1000000 := by rw [ByteArray.size_append]; omega
  have hs0c : (a0 ++ ⟨#[44]⟩ : ByteArray).size ≤ 1000000 := by rw [ByteArray.size_append]; show _ + 1 ≤ _; omega
  have cP := fun u (hu : Token.TokAt m u) => Token.policy_any a0 (by omega) m u hu
  have cQ := fun u (hu : Token.TokAt m u) => Token.policy_any (a0 ++ a1) hs01 m u hu
  rw [Path.text_append] at cQ
  have cL := fun u (hu : Token.TokAt m u) => Token.last_any (a0 ++ ⟨#[44]⟩) hs0c m u hu
  rw [Path.text_append, show (a0.data.toList ++ (⟨#[44]⟩ : ByteArray).data.toList) = a0.data.toList ++ [44] from rfl, Token.last_comma] at cL
  have cM := fun u (hu : Token.TokAt m u) => Token.last_any a0 (by omega) m u hu
  have cN := fun u (hu : Token.TokAt m u) => Token.name_any (Token.polB a0.data.toList : Nat) m u hu
  have hlt := Token.pol_lt a0.data.toList
  rw [show Token.nameI (Token.polB a0.data.toList : Nat) = Token.nameT (Token.polB a0.data.toList) by unfold Token.nameI; rw [if_pos (by omega)]; rfl] at cN
  have hlen := Token.pol_len a0.data.toList
  have hmore := Token.pol_more a0.data.toList a1.data.toList
  generalize Token.lastB a0.data.toList = L at cL cM
  generalize Token.polB (a0.data.toList ++ a1.data.toList) = q at cQ hmore
  generalize Token.polB a0.data.toList = p at cP cN hlt hlen hmore
  have q1 : decide ((0 : Int) ≤ (p : Int)) = true := decide_eq_true (by omega)
  have q2 : decide ((p : Int) < 9) = true := decide_eq_true (by omega)
  have hN : p ≠ 0 → (((tb (Token.nameT p)).size : Int) == (a0.size : Int)) = true := fun h => by
    rw [tb_size, hlen h]
    exact beq_self_eq_true _
  have hM : p ≠ 0 → a1.toList.isEmpty = false → ((q : Int) != (p : Int)) = true := fun h h1 => by
    have := hmore (fun e => by rw [ByteArray.toList_eq, e] at h1; cases h1) h
    rw [bne_iff_ne]
    omega
  have HN := Lib.hid hN
  have HM_ := Lib.hid hM
  clear hs01 hs0c hlt hlen hmore hN hM
  generalize tb (Token.nameT p) = N at cN HN
  go_wp2_with fail
  refine (cP _ HM1.out).mono ?_
  rintro e X2 ⟨rfl, hB⟩
  have HB2 := Lib.hid (Ascii.below2 HB1.out hB)
  have HM2 := Lib.hid (HM1.out.later hB)
  clear HB1 HM1
  clear hB 
  go_wp2_with fail
  refine (cQ _ HM2.out).mono ?_
  rintro e X3 ⟨rfl, hB⟩
  have HB3 := Lib.hid (Ascii.below2 HB2.out hB)
  have HM3 := Lib.hid (HM2.out.later hB)
  clear HB2 HM2
  clear hB 
  by_cases hp : p = 0
  · subst hp
    clear HN HM_ cN
    cases hx : a1.toList.isEmpty
    · go_wp2_with fail
      refine (cL _ HM3.out).mono ?_
      rintro e X4 ⟨rfl, hB⟩
      have HB4 := Lib.hid (Ascii.below2 HB3.out hB)
      have HM4 := Lib.hid (HM3.out.later hB)
      clear HB3 HM3
      clear hB 
      go_wp2_with fail
      refine (cM _ HM4.out).mono ?_
      rintro e X5 ⟨rfl, hB⟩
      have HB5 := Lib.hid (Ascii.below2 HB4.out hB)
      have HM5 := Lib.hid (HM4.out.later hB)
      clear HB4 HM4
      clear hB 
      go_wp2
      go_ret
      exact ⟨rfl, HB5.out⟩
    go_wp2_with fail
    refine (cL _ HM3.out).mono ?_
    rintro e X4 ⟨rfl, hB⟩
    have HB4 := Lib.hid (Ascii.below2 HB3.out hB)
    have HM4 := Lib.hid (HM3.out.later hB)
    clear HB3 HM3
    clear hB 
    go_wp2_with fail
    refine (cM _ HM4.out).mono ?_
    rintro e X5 ⟨rfl, hB⟩
    have HB5 := Lib.hid (Ascii.below2 HB4.out hB)
    have HM5 := Lib.hid (HM4.out.later hB)
    clear HB4 HM4
    clear hB 
    go_wp2
    go_ret
    exact ⟨rfl, HB5.out⟩
  have q3 : ((p : Int) == 0) = false := by rw [beq_eq_false_iff_ne]; omega
  have q4 := HN.out hp
  have hm2 := Lib.hid (HM_.out hp)
  clear HN HM_ hp
  go_wp2_with fail
  refine (cN _ HM3.out).mono ?_
  rintro e w' ⟨rfl, rfl⟩
  cases hx : a1.toList.isEmpty
  · have q5 := hm2.out hx
    clear hm2
    go_wp2_with fail
    refine (cL _ HM3.out).mono ?_
    rintro e X4 ⟨rfl, hB⟩
    have HB4 := Lib.hid (Ascii.below2 HB3.out hB)
    have HM4 := Lib.hid (HM3.out.later hB)
    clear HB3 HM3
    clear hB 
    go_wp2_with fail
    refine (cM _ HM4.out).mono ?_
    rintro e X5 ⟨rfl, hB⟩
    have HB5 := Lib.hid (Ascii.below2 HB4.out hB)
    have HM5 := Lib.hid (HM4.out.later hB)
    clear HB4 HM4
    clear hB 
    go_wp2
    go_ret
    exact ⟨rfl, HB5.out⟩
  clear hm2
  go_wp2_with fail
  refine (cL _ HM3.out).mono ?_
  rintro e X4 ⟨rfl, hB⟩
  have HB4 := Lib.hid (Ascii.below2 HB3.out hB)
  have HM4 := Lib.hid (HM3.out.later hB)
  clear HB3 HM3
  clear hB 
  go_wp2_with fail
  refine (cM _ HM4.out).mono ?_
  rintro e X5 ⟨rfl, hB⟩
  have HB5 := Lib.hid (Ascii.below2 HB4.out hB)
  have HM5 := Lib.hid (HM4.out.later hB)
  clear HB4 HM4
  clear hB 
  go_wp2
  go_ret
  exact ⟨rfl, HB5.out⟩

/-! ### The row's step -/
theorem reads (os : Os) {H : Type} (enc : TypeId × Value → H) : (DataW.whole enc Tryd.prog ((Card.laidWorld os).forCall (fun _ _ => 0) ⟨#[], #[.string ByteArray.empty, .string ByteArray.empty], []⟩).memory Tryd.f8.params.toList Rows.tokenPolicySpec.vars false (#[.string ByteArray.empty, .string ByteArray.empty] : Array Value).toList 8).map (fun x => (x.1, x.2.1)) = some ([.lit (.string []), .lit (.string [])], []) := by kernel_rfl
set_option maxRecDepth 100000 in
theorem lifted (os : Os) (started : os.Started) (H : Type) (enc : TypeId × Value → H) (F : Stop.Interp) :
    ReturnsInHanded {} Tryd.checked os 8 .any ((OpenSpec.ofChange Rows.tokenPolicySpec).preRow enc Tryd.prog Tryd.f8 Rows.tokenPolicyRow.domain false Rows.tokenPolicyRow.laid) (((OpenSpec.ofChange Rows.tokenPolicySpec).at F).post enc Tryd.prog Tryd.f8 false true false false) := by
  obtain ⟨⟨x1, x2, x3⟩, hx, hx1⟩ := Option.map_eq_some_iff.1 (reads os enc)
  simp only [Prod.mk.injEq] at hx1
  obtain ⟨rfl, rfl⟩ := hx1
  refine returnsInHanded_of_row (C := Tryd.checked) (s := OpenSpec.ofChange Rows.tokenPolicySpec) own started (by kernel_rfl) Tryd.func8
    (witness_row_at (enc := enc) (C := Tryd.checked) false (Card.laidWorld os) #[.string ByteArray.empty, .string ByteArray.empty] rfl (by kernel_rfl) (by kernel_rfl) (by kernel_rfl)
      (OpenSpec.preRow_of_cond 8 hx (by kernel_rfl) (fun k hk => by cases hk) (by kernel_rfl) (Card.laid_met os _))) ?_
  intro W base args ds gs before hval0 hW _ _ hw0 hL hsh _
  obtain ⟨m, hm⟩ := Card.maxLen_int hsh
  have hm := Token.tok_of hm hL
  have hval : ∀ (j : Nat) t v, Tryd.f8.params[j]? = some t → args[j]? = some v → Value.okWide Tryd.prog W .any base t v := hval0
  have hW' := hW
  obtain ⟨p, q, hA0, hV, rfl, hfz, hnd⟩ := hW
  have hA : DataW.TrodAll enc Tryd.prog W 0 (fun _ => true) true Tryd.f8.params.toList args.toList ds p := hA0
  rw [Tryd.params8] at hA hval
  obtain ⟨v0, vs0, d0, ds0, p0, q0, hargs0, rfl, rfl, t0, r0⟩ := trodAll_cons hA
  obtain ⟨v1, vs1, d1, ds1, p1, q1, hargs1, rfl, rfl, t1, r1⟩ := trodAll_cons r0
  obtain ⟨rfl, rfl, rfl⟩ := trodAll_nil r1
  obtain rfl : args = #[v0, v1] := by cases args; simp_all
  obtain ⟨rfl, rfl⟩ := trodVars_none hV
  obtain ⟨a0, rfl, rfl, rfl, w0⟩ := open_string Tryd.underlying9 (hval 0 9 v0 rfl rfl) t0
  obtain ⟨a1, rfl, rfl, rfl, w1⟩ := open_string Tryd.underlying9 (hval 1 9 v1 rfl rfl) t1
  clear hA0 hval0
  simp only [List.append_nil] at hW'
  refine (walk a0 a1 w0 w1 m W hm ).mono fun e W' ⟨he, bel⟩ => ?_
  subst he
  exact ⟨_, rfl, _, _, _, [], _, [], hW', trodAll_mk1 (shut_bool Tryd.underlying4 _), (trodAll_cons_mk (shut_string Tryd.underlying9 w0) (trodAll_cons_mk (shut_string Tryd.underlying9 w1) trodAll_mk0)), rfl, bel.frame _, fun h => by cases h⟩

theorem said : Rows.tokenPolicyRow.holds Tryd.pinned (OpenSpec.ofChange Rows.tokenPolicySpec) :=
  OpenClaim.holds_of_cond 8 Tryd.f8 rfl rfl rfl rfl rfl rfl rfl ⟨rfl, rfl, rfl, rfl, rfl⟩ rfl rfl rfl rfl rfl (by kernel_rfl) Tryd.func8 (by kernel_rfl)
    (of_decide_eq_true (by kernel_rfl)) (by unfold Func.isWrapper; first | (rw [if_pos (by decide +kernel)]; kernel_rfl) | (rw [if_neg (by decide +kernel)]; exact ⟨rfl, rfl⟩))
    (fun os started H enc _ F => by rw [OpenClaim.pre_eq_preRow]; exact lifted os started H enc F)

/-- No parameter wants a stand-in; the program's own looks are off. -/
theorem plain (f : FuncId) (fn : Func) (hf : Tryd.pinned.checked.prog.funcNamed Rows.tokenPolicyRow.func = some f) (hfn : Tryd.pinned.checked.prog.funcs[f]? = some fn) :
    false = Tryd.pinned.checked.prog.looks [] ∧ ∀ (j : Nat) t, fn.params[j]? = some t → Tryd.pinned.checked.prog.wantsStandIn t = false := by
  obtain rfl : f = 8 := Option.some.inj ((show Tryd.prog.funcNamed Rows.tokenPolicyRow.func = some 8 by kernel_rfl).symm.trans hf) |>.symm
  obtain rfl : fn = Tryd.f8 := (Option.some.inj (Tryd.func8.symm.trans hfn)).symm
  refine ⟨by kernel_rfl, fun j t ht => ?_⟩
  rw [Tryd.params8] at ht
  obtain rfl : t = 9 := by simpa using Array.mem_of_getElem? ht
  · exact (show Tryd.prog.wantsStandIn 9 = false by kernel_rfl)

/-- The statement: the card. -/
theorem proved : Rows.TokenPolicyCardSaid :=
  Claim7.holds_tied_plain_at .later [] _ _ _ _ said (fun _ h => by cases h) (by kernel_rfl) (fun _ h => by cases h) tokenPolicy_row_tie rfl ⟨rfl, rfl⟩ (by kernel_rfl) rfl plain (by kernel_rfl)
#print axioms proved
end Go.Proofs.YtbgebolamkfnlaaDoor.tokenPolicy
