/-
  HeadSame of layer 13 returns true for every input and leaves its arguments as they were: fields are the same as themselves, and as others just if names and values are, byte by byte, in order; with one more they are not. Conditions: the two tables of unicode/utf8 lie as their texts lay them (listed by the card), internal/bytealg.MaxLen holds any int.
-/
import Derived.Test.YtagmmdnfbjgmcabDoorCards
import Derived.Test.YtagmmdnfbjgmcabDoorTie
import Derived.WalkKit
import Derived.ProofKit
import Derived.OpenShut
import Derived.ShutString
import Derived.ChangeOld
import Derived.Below
import Derived.Test.YtagmmdnfbjgmcabDoorHdOut
import Derived.Test.YtagmmdnfbjgmcabDoorLaid
namespace Go.Proofs.YtagmmdnfbjgmcabDoor.headSame
open Go.ChangeShapes Go.WideShapes Go.ChangeAt Go.RowKit
open Go.ChangeMaps (open_string shut_string)
open Go.Shelf
open Go.Proofs.YtagmmdnfbjgmcabDoor.Head
set_option linter.unusedSimpArgs false
set_option linter.unusedVariables false

theorem own : ownKnob Tryd.prog.godebug = none := by kernel_rfl
theorem laidOut : laidOutB Tryd.prog = true := by kernel_rfl

set_option maxRecDepth 100000
set_option maxHeartbeats 16000000 in
theorem walk (v0 : Value) (l0 : List F) (v1 : Value) (l1 : List F) (a2 : Int) (w2 : (Lit.int .i64 a2).wf = true) (m : Int) (w : World) (hm : Path.MaxAt m w) (w0 : Flds w v0 l0) (w1 : Flds w v1 l1) :
    Calls Tryd.prog 3 #[v0, v1, .int .i64 a2] w fun e w' => e = .returned (.bool true) ∧ Below w.heap.size w w' := by
  have HM0 := Lib.hid hm
  have HF0_0 := Lib.hid w0
  obtain ⟨ax0, cx0, rfl, -⟩ := w0
  have HF1_0 := Lib.hid w1
  obtain ⟨ax1, cx1, rfl, -⟩ := w1
  clear hm
  go_enter Tryd.func3, Tryd.ntmps3
  go_wp2_with fail
  refine (awake_calls m w HM0.out).mono ?_
  rintro e X1 ⟨rfl, hB⟩
  have HB1 := Lib.hid (hB)
  have HM1 := Lib.hid (HM0.out.later hB)
  have HF0_1 := Lib.hid (HF0_0.out.later hB)
  have HF1_1 := Lib.hid (HF1_0.out.later hB)
  clear HM0 HF0_0 HF1_0
  clear hB
  go_wp2_with fail
  refine (few_any _ l0 X1 HF0_1.out).mono ?_
  rintro e X' ⟨rfl, rfl⟩
  obtain ⟨b0, hb0⟩ : ∃ b, fewF l0 = b := ⟨_, rfl⟩
  rw [hb0]
  go_wp2_with fail
  refine (few_any _ l1 X1 HF1_1.out).mono ?_
  rintro e X' ⟨rfl, rfl⟩
  obtain ⟨b1, hb1⟩ : ∃ b, fewF l1 = b := ⟨_, rfl⟩
  rw [hb1]
  cases b0
  rotate_left
  rotate_left
  · go_wp2
    go_ret
    exact ⟨rfl, HB1.out⟩
  obtain ⟨hl0, hs0⟩ := few_of hb0
  have HS0 := Lib.hid (few_big hs0)
  clear hb0 hs0
  cases b1
  rotate_left
  rotate_left
  · go_wp2
    go_ret
    exact ⟨rfl, HB1.out⟩
  obtain ⟨hl1, hs1⟩ := few_of hb1
  have HS1 := Lib.hid (few_big hs1)
  clear hb1 hs1
  go_wp2_with fail
  refine (same_any _ _ _ _ _ HF0_1.out HF1_1.out).mono ?_
  rintro e X2 ⟨rfl, hB⟩
  have HB2 := Lib.hid (Ascii.below2 HB1.out hB)
  have HM2 := Lib.hid (HM1.out.later hB)
  have HF0_2 := Lib.hid (HF0_1.out.later hB)
  have HF1_2 := Lib.hid (HF1_1.out.later hB)
  clear HB1 HM1 HF0_1 HF1_1
  clear hB 
  have HR := Lib.hid (show decide (l1 = l0) = decide (l0 = l1) from by rw [Bool.eq_iff_iff]; simp [eq_comm])
  have HI := Lib.hid (fun h : decide (l0 = l1) = true => of_decide_eq_true h)
  generalize decide (l0 = l1) = r at HR HI ⊢
  have OW2 := Lib.hid (OwnF.start X2)
  have HC2 := Lib.hid (Below.refl X2.heap.size X2)
  have SHB := HB2
  have SHM := HM2
  have SHF0_ := HF0_2
  have SHF1_ := HF1_2
  go_wp2_with (at_builtin; refine wp_app_flds rfl _ _ rfl rfl OW2.out rfl HF0_2.out (by rw [List.length_nil]; omega) ?_)
  intro va2 X3 hO hBb
  have hT := HC2.out.trans hBb
  try rw [List.nil_append] at hO
  have HM3' := Lib.hid (SHM.out.later hT)
  have HF0_3' := Lib.hid (SHF0_.out.later hT)
  have HF1_3' := Lib.hid (SHF1_.out.later hT)
  have HB3 := Lib.hid (Ascii.below2 SHB.out hT)
  clear HB2 HC2 HM2 HF0_2 HF1_2 OW2
  have HM3 := HM3'
  clear HM3'
  have HF0_3 := HF0_3'
  clear HF0_3'
  have HF1_3 := HF1_3'
  clear HF1_3'
  have OW3 := Lib.hid hO
  have HC3 := Lib.hid hT
  clear hO hBb hT
  have hBA := (Below.refl X3.heap.size X3).alloc (Nat.le_refl _) (.cells #[.string ⟨#[120]⟩, .string ⟨#[]⟩] 27)
  have hF1 := flds_one X3 ⟨#[120]⟩ ⟨#[]⟩
  have hOA := OW3.out.later hBA
  go_wp2_with (at_builtin; refine wp_app_flds rfl _ _ rfl rfl hOA rfl hF1 (by simp; omega) ?_)
  intro va X4 hO hBb
  have hT := (HC3.out.alloc HC3.out.size _).trans hBb
  clear hBA hF1 hOA
  have HM4' := Lib.hid (SHM.out.later hT)
  have HF0_4' := Lib.hid (SHF0_.out.later hT)
  have HF1_4' := Lib.hid (SHF1_.out.later hT)
  have HB4 := Lib.hid (Ascii.below2 SHB.out hT)
  clear HB3 HC3 HM3 HF0_3 HF1_3 OW3
  have HM4 := HM4'
  clear HM4'
  have HF0_4 := HF0_4'
  clear HF0_4'
  have HF1_4 := HF1_4'
  clear HF1_4'
  have OW4 := Lib.hid hO
  have HC4 := Lib.hid hT
  clear hO hBb hT
  have HA_4 := Lib.hid (OW4.out.flds)
  clear OW4 HC4 SHB SHM SHF0_ SHF1_
  go_wp2_with fail
  have cD := same_any _ _ _ _ X4 HF0_4.out HF0_4.out
  rw [show decide (l0 = l0) = true from decide_eq_true rfl] at cD
  refine (cD).mono ?_
  rintro e X5 ⟨rfl, hB⟩
  have HB5 := Lib.hid (Ascii.below2 HB4.out hB)
  have HM5 := Lib.hid (HM4.out.later hB)
  have HF0_5 := Lib.hid (HF0_4.out.later hB)
  have HF1_5 := Lib.hid (HF1_4.out.later hB)
  have HA_5 := Lib.hid (HA_4.out.later hB)
  clear HB4 HM4 HF0_4 HF1_4 HA_4
  clear hB 
  go_wp2_with fail
  have cE := same_any _ _ _ _ X5 HF1_5.out HF0_5.out
  rw [HR.out] at cE
  refine (cE).mono ?_
  rintro e X6 ⟨rfl, hB⟩
  have HB6 := Lib.hid (Ascii.below2 HB5.out hB)
  have HM6 := Lib.hid (HM5.out.later hB)
  have HF0_6 := Lib.hid (HF0_5.out.later hB)
  have HF1_6 := Lib.hid (HF1_5.out.later hB)
  have HA_6 := Lib.hid (HA_5.out.later hB)
  clear HB5 HM5 HF0_5 HF1_5 HA_5
  clear hB 
  have hbb : (r != r) = false := by cases r <;> rfl
  go_wp2_with fail
  have cG := same_any _ _ _ _ X6 HF0_6.out HA_6.out
  rw [not_more] at cG
  refine (cG).mono ?_
  rintro e X7 ⟨rfl, hB⟩
  have HB7 := Lib.hid (Ascii.below2 HB6.out hB)
  have HM7 := Lib.hid (HM6.out.later hB)
  have HF0_7 := Lib.hid (HF0_6.out.later hB)
  have HF1_7 := Lib.hid (HF1_6.out.later hB)
  have HA_7 := Lib.hid (HA_6.out.later hB)
  clear HB6 HM6 HF0_6 HF1_6 HA_6
  clear hB 
  cases r
  · go_wp2
    go_quiet (fail)
    have hB2 := Lib.hid (Path.drewN_below HB7.out nq)
    generalize X7.drewN nq = W1 at hB2 ⊢
    go_wp2
    go_ret
    exact ⟨rfl, hB2.out⟩
  obtain rfl := HI.out rfl
  have ql : ((l0.length : Int) == (l0.length : Int)) = true := beq_self_eq_true _
  rcases Int.lt_or_le a2 0 with hi | hi
  · have qi : decide (a2 < 0) = true := decide_eq_true hi
    go_wp2
    go_quiet (fail)
    have hB2 := Lib.hid (Path.drewN_below HB7.out nq)
    generalize X7.drewN nq = W1 at hB2 ⊢
    go_wp2
    go_ret
    exact ⟨rfl, hB2.out⟩
  have qi : decide (a2 < 0) = false := decide_eq_false (by omega)
  rcases Int.lt_or_le a2 (l0.length : Int) with hj | hj
  rotate_left
  · have qj : decide ((l0.length : Int) ≤ a2) = true := decide_eq_true hj
    go_wp2
    go_quiet (fail)
    have hB2 := Lib.hid (Path.drewN_below HB7.out nq)
    generalize X7.drewN nq = W1 at hB2 ⊢
    go_wp2
    go_ret
    exact ⟨rfl, hB2.out⟩
  have qj : decide ((l0.length : Int) ≤ a2) = false := decide_eq_false (by omega)
  obtain ⟨k, rfl⟩ : ∃ k : Nat, a2 = (k : Int) := ⟨a2.toNat, by omega⟩
  have hlt : k < l0.length := by omega
  obtain ⟨b, off, rfl, hkc, g0, g1⟩ := HF0_7.out.at_ k hlt
  obtain ⟨b', off', rfl, hkc', g0', g1'⟩ := HF1_7.out.at_ k hlt
  have heq := fun u => eq42 (tb l0[k].1) (tb l0[k].2) (tb l0[k].1) (tb l0[k].2) u
  rw [show ((tb l0[k].1).toList == (tb l0[k].1).toList && (tb l0[k].2).toList == (tb l0[k].2).toList) = true by simp] at heq
  generalize tb l0[k].1 = S1 at g0 g0' heq
  generalize tb l0[k].2 = S2 at g1 g1' heq
  go_wp2
  go_quiet (fail)
  have hB2 := Lib.hid (Path.drewN_below HB7.out nq)
  generalize X7.drewN nq = W1 at hB2 ⊢
  go_wp2
  go_ret
  exact ⟨rfl, hB2.out⟩

/-! ### The row's step -/
theorem reads (os : Os) {H : Type} (enc : TypeId × Value → H) : (DataW.whole enc Tryd.prog ((Card.laidWorld os).forCall (fun _ _ => 0) ⟨#[], #[.slice none 0 0, .slice none 0 0, .int .i64 0], []⟩).memory Tryd.f3.params.toList Rows.headSameSpec.vars false (#[.slice none 0 0, .slice none 0 0, .int .i64 0] : Array Value).toList 8).map (fun x => (x.1, x.2.1)) = some ([.nil, .nil, .lit (.int .i64 0)], []) := by kernel_rfl
set_option maxRecDepth 100000 in
theorem lifted (os : Os) (started : os.Started) (H : Type) (enc : TypeId × Value → H) (F : Stop.Interp) :
    ReturnsInHanded {} Tryd.checked os 3 .any ((OpenSpec.ofChange Rows.headSameSpec).preRow enc Tryd.prog Tryd.f3 Rows.headSameRow.domain false Rows.headSameRow.laid) (((OpenSpec.ofChange Rows.headSameSpec).at F).post enc Tryd.prog Tryd.f3 false true false false) := by
  obtain ⟨⟨x1, x2, x3⟩, hx, hx1⟩ := Option.map_eq_some_iff.1 (reads os enc)
  simp only [Prod.mk.injEq] at hx1
  obtain ⟨rfl, rfl⟩ := hx1
  refine returnsInHanded_of_row (C := Tryd.checked) (s := OpenSpec.ofChange Rows.headSameSpec) own started (by kernel_rfl) Tryd.func3
    (witness_row_at (enc := enc) (C := Tryd.checked) false (Card.laidWorld os) #[.slice none 0 0, .slice none 0 0, .int .i64 0] rfl (by kernel_rfl) (by kernel_rfl) (by kernel_rfl)
      (OpenSpec.preRow_of_cond 8 hx (by kernel_rfl) (fun k hk => by cases hk) (by kernel_rfl) (Card.laid_met os _))) ?_
  intro W base args ds gs before hval0 hW _ _ _ hL hsh _
  obtain ⟨m, hm⟩ := Card.maxLen_int hsh
  have hval : ∀ (j : Nat) t v, Tryd.f3.params[j]? = some t → args[j]? = some v → Value.okWide Tryd.prog W .any base t v := hval0
  have hW' := hW
  obtain ⟨p, q, hA0, hV, rfl, hfz, hnd⟩ := hW
  have hA : DataW.TrodAll enc Tryd.prog W 0 (fun _ => true) true Tryd.f3.params.toList args.toList ds p := hA0
  rw [Tryd.params3] at hA hval
  obtain ⟨v0, vs0, d0, ds0, p0, q0, hargs0, rfl, rfl, t0, r0⟩ := trodAll_cons hA
  obtain ⟨v1, vs1, d1, ds1, p1, q1, hargs1, rfl, rfl, t1, r1⟩ := trodAll_cons r0
  obtain ⟨v2, vs2, d2, ds2, p2, q2, hargs2, rfl, rfl, t2, r2⟩ := trodAll_cons r1
  obtain ⟨rfl, rfl, rfl⟩ := trodAll_nil r2
  obtain rfl : args = #[v0, v1, v2] := by cases args; simp_all
  obtain ⟨rfl, rfl⟩ := trodVars_none hV
  obtain ⟨a0, len0, cap0, rfl⟩ := okWide_slice Tryd.underlying22 (hval 0 22 v0 rfl rfl)
  have k0 := t0
  have lt0 : ∀ x ∈ p0, x.block < W.heap.size := by obtain ⟨m, hm⟩ := k0; exact DataW.trod_lt m _ _ _ hm
  obtain ⟨z0, w0⟩ := Head.open_flds t0
  obtain ⟨a1, len1, cap1, rfl⟩ := okWide_slice Tryd.underlying22 (hval 1 22 v1 rfl rfl)
  have k1 := t1
  have lt1 : ∀ x ∈ p1, x.block < W.heap.size := by obtain ⟨m, hm⟩ := k1; exact DataW.trod_lt m _ _ _ hm
  obtain ⟨z1, w1⟩ := Head.open_flds t1
  obtain ⟨a2, rfl, rfl, rfl, w2⟩ := open_int Tryd.underlying3 (hval 2 3 v2 rfl rfl) t2
  clear hA0 hval0
  simp only [List.append_nil] at hW'
  refine (walk (.slice a0 len0 cap0) z0 (.slice a1 len1 cap1) z1 a2 w2 m W hm w0 w1).mono fun e W' ⟨he, bel⟩ => ?_
  subst he
  exact ⟨_, rfl, _, _, _, [], _, [], hW', trodAll_mk1 (shut_bool Tryd.underlying4 _), (trodAll_cons_mk (Below.trod laidOut (by kernel_rfl) (of_decide_eq_true (by kernel_rfl)) k0 bel lt0) (trodAll_cons_mk (Below.trod laidOut (by kernel_rfl) (of_decide_eq_true (by kernel_rfl)) k1 bel lt1) (trodAll_cons_mk (shut_int Tryd.underlying3 w2) trodAll_mk0))), rfl, bel.frame _, fun h => by cases h⟩

theorem said : Rows.headSameRow.holds Tryd.pinned (OpenSpec.ofChange Rows.headSameSpec) :=
  OpenClaim.holds_of_cond 3 Tryd.f3 rfl rfl rfl rfl rfl rfl rfl ⟨rfl, rfl, rfl, rfl, rfl⟩ rfl rfl rfl rfl rfl (by kernel_rfl) Tryd.func3 (by kernel_rfl)
    (of_decide_eq_true (by kernel_rfl)) (by unfold Func.isWrapper; first | (rw [if_pos (by decide +kernel)]; kernel_rfl) | (rw [if_neg (by decide +kernel)]; exact ⟨rfl, rfl⟩))
    (fun os started H enc _ F => by rw [OpenClaim.pre_eq_preRow]; exact lifted os started H enc F)

/-- No parameter wants a stand-in; the program's own looks are off. -/
theorem plain (f : FuncId) (fn : Func) (hf : Tryd.pinned.checked.prog.funcNamed Rows.headSameRow.func = some f) (hfn : Tryd.pinned.checked.prog.funcs[f]? = some fn) :
    false = Tryd.pinned.checked.prog.looks [] ∧ ∀ (j : Nat) t, fn.params[j]? = some t → Tryd.pinned.checked.prog.wantsStandIn t = false := by
  obtain rfl : f = 3 := Option.some.inj ((show Tryd.prog.funcNamed Rows.headSameRow.func = some 3 by kernel_rfl).symm.trans hf) |>.symm
  obtain rfl : fn = Tryd.f3 := (Option.some.inj (Tryd.func3.symm.trans hfn)).symm
  refine ⟨by kernel_rfl, fun j t ht => ?_⟩
  rw [Tryd.params3] at ht
  obtain rfl | rfl : t = 22 ∨ t = 3 := by simpa using Array.mem_of_getElem? ht
  · exact (show Tryd.prog.wantsStandIn 22 = false by kernel_rfl)
  · exact (show Tryd.prog.wantsStandIn 3 = false by kernel_rfl)

/-- The statement: the card. -/
theorem proved : Rows.HeadSameCardSaid :=
  Claim7.holds_tied_plain_at .later [] _ _ _ _ said (fun _ h => by cases h) (by kernel_rfl) (fun _ h => by cases h) headSame_row_tie rfl ⟨rfl, rfl⟩ (by kernel_rfl) rfl plain (by kernel_rfl)
#print axioms proved
end Go.Proofs.YtagmmdnfbjgmcabDoor.headSame
