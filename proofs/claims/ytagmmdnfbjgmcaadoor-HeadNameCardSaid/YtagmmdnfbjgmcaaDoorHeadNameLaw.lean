/-
  HeadName of layer 13 returns true for every input and leaves its arguments as they were: names are told apart without regard to capital letters; a name has no blank, no colon, and no byte from 128 on; a value may have them, but no end of a line. Conditions: the two tables of unicode/utf8 lie as their texts lay them (listed by the card), internal/bytealg.MaxLen holds any int.
-/
import Derived.Test.YtagmmdnfbjgmcaaDoorCards
import Derived.Test.YtagmmdnfbjgmcaaDoorTie
import Derived.WalkKit
import Derived.ProofKit
import Derived.OpenShut
import Derived.ShutString
import Derived.ChangeOld
import Derived.Below
import Derived.Test.YtagmmdnfbjgmcaaDoorHdLaws
import Derived.Test.YtagmmdnfbjgmcaaDoorLaid
namespace Go.Proofs.YtagmmdnfbjgmcaaDoor.headName
open Go.ChangeShapes Go.WideShapes Go.ChangeAt Go.RowKit
open Go.ChangeMaps (open_string shut_string)
open Go.Shelf
open Go.Proofs.YtagmmdnfbjgmcaaDoor.Head
set_option linter.unusedSimpArgs false
set_option linter.unusedVariables false

theorem own : ownKnob Tryd.prog.godebug = none := by kernel_rfl
theorem laidOut : laidOutB Tryd.prog = true := by kernel_rfl

set_option maxRecDepth 100000
set_option maxHeartbeats 16000000 in
theorem walk (a0 : ByteArray) (a1 : ByteArray) (a2 : Int) (w0 : a0.size ≤ maxLen) (w1 : a1.size ≤ maxLen) (w2 : (Lit.int .i64 a2).wf = true) (m : Int) (w : World) (hm : Path.MaxAt m w) :
    Calls Tryd.prog 8 #[.string a0, .string a1, .int .i64 a2] w fun e w' => e = .returned (.bool true) ∧ Below w.heap.size w w' := by
  go_enter Tryd.func8, Tryd.ntmps8
  go_wp2_with fail
  refine (awake_calls m w hm).mono ?_
  rintro e X1 ⟨rfl, hB1⟩
  clear hm
  by_cases h0 : a0.size ≤ 300
  · have q0 : decide ((300 : Int) < (a0.size : Int)) = false := decide_eq_false (by omega)
    by_cases h1 : a1.size ≤ 300
    · have q1 : decide ((300 : Int) < (a1.size : Int)) = false := decide_eq_false (by omega)
      have hll : (Ascii.lower a0.data.toList).length = a0.size := by unfold Ascii.lower; rw [List.length_map]; rfl
      have cN := fun u => name_any ⟨(Ascii.lower a0.data.toList).toArray⟩ (by show (Ascii.lower a0.data.toList).length ≤ _; unfold maxLen; omega) u
      rw [show (⟨(Ascii.lower a0.data.toList).toArray⟩ : ByteArray).data.toList = Ascii.lower a0.data.toList by simp, name_low] at cN
      have cM := fun u => name_any a0 w0 u
      have cV := fun u => value_any a1 (by omega) u
      have HN := Lib.hid (name_at a0)
      have HV := Lib.hid (val_at a1)
      have hne := Lib.hid (name_ne (s := a0.data.toList))
      go_wp2_with fail
      refine (Ascii.lower_calls a0 w0 (by omega) _).mono ?_
      rintro e X2 ⟨rfl, hB2⟩
      have hb2 := Ascii.below2 hB1 hB2
      clear hB1 hB2
      have hend : ∀ u, X2 = u → Below w.heap.size w u := fun u h => h ▸ hb2
      have hz : nameB a0.data.toList = true → a0.toList.isEmpty = false := fun h => by
        rw [ByteArray.toList_eq]
        have := hne.out h
        cases hq : a0.data.toList with
        | nil => exact absurd hq this
        | cons c t => rfl
      have HZ := Lib.hid hz
      clear hz hne
      generalize nameB a0.data.toList = n at cN cM HN HZ
      generalize valB a1.data.toList = b at cV HV
      -- tail
      go_wp2_with fail
      refine (cN _).mono ?_
      rintro e w' ⟨rfl, rfl⟩
      clear cN
      cases n
      · by_cases hi : a2 < 0
        · have q2 : decide (0 ≤ a2) = false := decide_eq_false (by omega)
          have q3 : decide (a2 < 0) = true := decide_eq_true hi
          go_wp2_with (go_at_call 26; refine (cM _).mono ?_; rintro e w' ⟨rfl, rfl⟩)
          go_ret
          exact ⟨rfl, hb2⟩
        · obtain ⟨k, rfl⟩ : ∃ k : Nat, a2 = (k : Int) := ⟨a2.toNat, by omega⟩
          have q2 : decide ((0 : Int) ≤ (k : Int)) = true := decide_eq_true (by omega)
          have q3 : decide ((k : Int) < 0) = false := decide_eq_false (by omega)
          clear hi
          by_cases hk : k < a0.size
          · have q4 : decide ((k : Int) < (a0.size : Int)) = true := decide_eq_true (by omega)
            clear HN
            by_cases hj : k < a1.size
            · have q5 : decide ((a1.size : Int) ≤ (k : Int)) = false := decide_eq_false (by omega)
              go_wp2_with (go_at_call 26; refine (cM _).mono ?_; rintro e w' ⟨rfl, rfl⟩)
              refine (cV _).mono ?_
              rintro e X3 ⟨rfl, hB3⟩
              have hb3 := Ascii.below2 hb2 hB3
              cases b
              · clear HV
                go_wp2
                go_ret
                exact ⟨rfl, hb3⟩
              · obtain ⟨v1, v2, v3, v4⟩ := HV.out k hj rfl
                cases h32 : ((a1[k].toNat : Int) != 32)
                · obtain ⟨k1, k2⟩ := v4 h32
                  have q6 : decide ((0 : Int) < (k : Int)) = true := decide_eq_true (by omega)
                  have q7 : decide ((k : Int) < (a1.size : Int) - 1) = true := decide_eq_true (by omega)
                  clear HV v4
                  go_wp2
                  go_ret
                  exact ⟨rfl, hb3⟩
                · clear HV v4
                  go_wp2
                  go_ret
                  exact ⟨rfl, hb3⟩
            · have q5 : decide ((a1.size : Int) ≤ (k : Int)) = true := decide_eq_true (by omega)
              go_wp2_with (go_at_call 26; refine (cM _).mono ?_; rintro e w' ⟨rfl, rfl⟩)
              go_ret
              exact ⟨rfl, hb2⟩
          · have q4 : decide ((k : Int) < (a0.size : Int)) = false := decide_eq_false (by omega)
            clear HN
            by_cases hj : k < a1.size
            · have q5 : decide ((a1.size : Int) ≤ (k : Int)) = false := decide_eq_false (by omega)
              go_wp2_with (go_at_call 26; refine (cM _).mono ?_; rintro e w' ⟨rfl, rfl⟩)
              refine (cV _).mono ?_
              rintro e X3 ⟨rfl, hB3⟩
              have hb3 := Ascii.below2 hb2 hB3
              cases b
              · clear HV
                go_wp2
                go_ret
                exact ⟨rfl, hb3⟩
              · obtain ⟨v1, v2, v3, v4⟩ := HV.out k hj rfl
                cases h32 : ((a1[k].toNat : Int) != 32)
                · obtain ⟨k1, k2⟩ := v4 h32
                  have q6 : decide ((0 : Int) < (k : Int)) = true := decide_eq_true (by omega)
                  have q7 : decide ((k : Int) < (a1.size : Int) - 1) = true := decide_eq_true (by omega)
                  clear HV v4
                  go_wp2
                  go_ret
                  exact ⟨rfl, hb3⟩
                · clear HV v4
                  go_wp2
                  go_ret
                  exact ⟨rfl, hb3⟩
            · have q5 : decide ((a1.size : Int) ≤ (k : Int)) = true := decide_eq_true (by omega)
              go_wp2_with (go_at_call 26; refine (cM _).mono ?_; rintro e w' ⟨rfl, rfl⟩)
              go_ret
              exact ⟨rfl, hb2⟩
      · have hz := HZ.out rfl
        by_cases hi : a2 < 0
        · have q2 : decide (0 ≤ a2) = false := decide_eq_false (by omega)
          have q3 : decide (a2 < 0) = true := decide_eq_true hi
          go_wp2_with (go_at_call 26; refine (cM _).mono ?_; rintro e w' ⟨rfl, rfl⟩)
          go_ret
          exact ⟨rfl, hb2⟩
        · obtain ⟨k, rfl⟩ : ∃ k : Nat, a2 = (k : Int) := ⟨a2.toNat, by omega⟩
          have q2 : decide ((0 : Int) ≤ (k : Int)) = true := decide_eq_true (by omega)
          have q3 : decide ((k : Int) < 0) = false := decide_eq_false (by omega)
          clear hi
          by_cases hk : k < a0.size
          · have q4 : decide ((k : Int) < (a0.size : Int)) = true := decide_eq_true (by omega)
            obtain ⟨p1, p2, p3, p4⟩ := HN.out k hk rfl
            clear HN
            by_cases hj : k < a1.size
            · have q5 : decide ((a1.size : Int) ≤ (k : Int)) = false := decide_eq_false (by omega)
              go_wp2_with (go_at_call 26; refine (cM _).mono ?_; rintro e w' ⟨rfl, rfl⟩)
              refine (cV _).mono ?_
              rintro e X3 ⟨rfl, hB3⟩
              have hb3 := Ascii.below2 hb2 hB3
              cases b
              · clear HV
                go_wp2
                go_ret
                exact ⟨rfl, hb3⟩
              · obtain ⟨v1, v2, v3, v4⟩ := HV.out k hj rfl
                cases h32 : ((a1[k].toNat : Int) != 32)
                · obtain ⟨k1, k2⟩ := v4 h32
                  have q6 : decide ((0 : Int) < (k : Int)) = true := decide_eq_true (by omega)
                  have q7 : decide ((k : Int) < (a1.size : Int) - 1) = true := decide_eq_true (by omega)
                  clear HV v4
                  go_wp2
                  go_ret
                  exact ⟨rfl, hb3⟩
                · clear HV v4
                  go_wp2
                  go_ret
                  exact ⟨rfl, hb3⟩
            · have q5 : decide ((a1.size : Int) ≤ (k : Int)) = true := decide_eq_true (by omega)
              go_wp2_with (go_at_call 26; refine (cM _).mono ?_; rintro e w' ⟨rfl, rfl⟩)
              go_ret
              exact ⟨rfl, hb2⟩
          · have q4 : decide ((k : Int) < (a0.size : Int)) = false := decide_eq_false (by omega)
            clear HN
            by_cases hj : k < a1.size
            · have q5 : decide ((a1.size : Int) ≤ (k : Int)) = false := decide_eq_false (by omega)
              go_wp2_with (go_at_call 26; refine (cM _).mono ?_; rintro e w' ⟨rfl, rfl⟩)
              refine (cV _).mono ?_
              rintro e X3 ⟨rfl, hB3⟩
              have hb3 := Ascii.below2 hb2 hB3
              cases b
              · clear HV
                go_wp2
                go_ret
                exact ⟨rfl, hb3⟩
              · obtain ⟨v1, v2, v3, v4⟩ := HV.out k hj rfl
                cases h32 : ((a1[k].toNat : Int) != 32)
                · obtain ⟨k1, k2⟩ := v4 h32
                  have q6 : decide ((0 : Int) < (k : Int)) = true := decide_eq_true (by omega)
                  have q7 : decide ((k : Int) < (a1.size : Int) - 1) = true := decide_eq_true (by omega)
                  clear HV v4
                  go_wp2
                  go_ret
                  exact ⟨rfl, hb3⟩
                · clear HV v4
                  go_wp2
                  go_ret
                  exact ⟨rfl, hb3⟩
            · have q5 : decide ((a1.size : Int) ≤ (k : Int)) = true := decide_eq_true (by omega)
              go_wp2_with (go_at_call 26; refine (cM _).mono ?_; rintro e w' ⟨rfl, rfl⟩)
              go_ret
              exact ⟨rfl, hb2⟩
    · have q1 : decide ((300 : Int) < (a1.size : Int)) = true := decide_eq_true (by omega)
      go_wp2
      go_ret
      exact ⟨rfl, hB1⟩
  · have q0 : decide ((300 : Int) < (a0.size : Int)) = true := decide_eq_true (by omega)
    go_wp2
    go_ret
    exact ⟨rfl, hB1⟩

/-! ### The row's step -/
theorem reads (os : Os) {H : Type} (enc : TypeId × Value → H) : (DataW.whole enc Tryd.prog ((Card.laidWorld os).forCall (fun _ _ => 0) ⟨#[], #[.string ByteArray.empty, .string ByteArray.empty, .int .i64 0], []⟩).memory Tryd.f8.params.toList Rows.headNameSpec.vars false (#[.string ByteArray.empty, .string ByteArray.empty, .int .i64 0] : Array Value).toList 8).map (fun x => (x.1, x.2.1)) = some ([.lit (.string []), .lit (.string []), .lit (.int .i64 0)], []) := by kernel_rfl
set_option maxRecDepth 100000 in
theorem lifted (os : Os) (started : os.Started) (H : Type) (enc : TypeId × Value → H) (F : Stop.Interp) :
    ReturnsInHanded {} Tryd.checked os 8 .any ((OpenSpec.ofChange Rows.headNameSpec).preRow enc Tryd.prog Tryd.f8 Rows.headNameRow.domain false Rows.headNameRow.laid) (((OpenSpec.ofChange Rows.headNameSpec).at F).post enc Tryd.prog Tryd.f8 false true false false) := by
  obtain ⟨⟨x1, x2, x3⟩, hx, hx1⟩ := Option.map_eq_some_iff.1 (reads os enc)
  simp only [Prod.mk.injEq] at hx1
  obtain ⟨rfl, rfl⟩ := hx1
  refine returnsInHanded_of_row (C := Tryd.checked) (s := OpenSpec.ofChange Rows.headNameSpec) own started (by kernel_rfl) Tryd.func8
    (witness_row_at (enc := enc) (C := Tryd.checked) false (Card.laidWorld os) #[.string ByteArray.empty, .string ByteArray.empty, .int .i64 0] rfl (by kernel_rfl) (by kernel_rfl) (by kernel_rfl)
      (OpenSpec.preRow_of_cond 8 hx (by kernel_rfl) (fun k hk => by cases hk) (by kernel_rfl) (Card.laid_met os _))) ?_
  intro W base args ds gs before hval0 hW _ _ _ hL hsh _
  obtain ⟨m, hm⟩ := Card.maxLen_int hsh
  have hval : ∀ (j : Nat) t v, Tryd.f8.params[j]? = some t → args[j]? = some v → Value.okWide Tryd.prog W .any base t v := hval0
  have hW' := hW
  obtain ⟨p, q, hA0, hV, rfl, hfz, hnd⟩ := hW
  have hA : DataW.TrodAll enc Tryd.prog W 0 (fun _ => true) true Tryd.f8.params.toList args.toList ds p := hA0
  rw [Tryd.params8] at hA hval
  obtain ⟨v0, vs0, d0, ds0, p0, q0, hargs0, rfl, rfl, t0, r0⟩ := trodAll_cons hA
  obtain ⟨v1, vs1, d1, ds1, p1, q1, hargs1, rfl, rfl, t1, r1⟩ := trodAll_cons r0
  obtain ⟨v2, vs2, d2, ds2, p2, q2, hargs2, rfl, rfl, t2, r2⟩ := trodAll_cons r1
  obtain ⟨rfl, rfl, rfl⟩ := trodAll_nil r2
  obtain rfl : args = #[v0, v1, v2] := by cases args; simp_all
  obtain ⟨rfl, rfl⟩ := trodVars_none hV
  obtain ⟨a0, rfl, rfl, rfl, w0⟩ := open_string Tryd.underlying9 (hval 0 9 v0 rfl rfl) t0
  obtain ⟨a1, rfl, rfl, rfl, w1⟩ := open_string Tryd.underlying9 (hval 1 9 v1 rfl rfl) t1
  obtain ⟨a2, rfl, rfl, rfl, w2⟩ := open_int Tryd.underlying3 (hval 2 3 v2 rfl rfl) t2
  clear hA0 hval0
  simp only [List.append_nil] at hW'
  refine (walk a0 a1 a2 w0 w1 w2 m W hm ).mono fun e W' ⟨he, bel⟩ => ?_
  subst he
  exact ⟨_, rfl, _, _, _, [], _, [], hW', trodAll_mk1 (shut_bool Tryd.underlying4 _), (trodAll_cons_mk (shut_string Tryd.underlying9 w0) (trodAll_cons_mk (shut_string Tryd.underlying9 w1) (trodAll_cons_mk (shut_int Tryd.underlying3 w2) trodAll_mk0))), rfl, bel.frame _, fun h => by cases h⟩

theorem said : Rows.headNameRow.holds Tryd.pinned (OpenSpec.ofChange Rows.headNameSpec) :=
  OpenClaim.holds_of_cond 8 Tryd.f8 rfl rfl rfl rfl rfl rfl rfl ⟨rfl, rfl, rfl, rfl, rfl⟩ rfl rfl rfl rfl rfl (by kernel_rfl) Tryd.func8 (by kernel_rfl)
    (of_decide_eq_true (by kernel_rfl)) (by unfold Func.isWrapper; first | (rw [if_pos (by decide +kernel)]; kernel_rfl) | (rw [if_neg (by decide +kernel)]; exact ⟨rfl, rfl⟩))
    (fun os started H enc _ F => by rw [OpenClaim.pre_eq_preRow]; exact lifted os started H enc F)

/-- No parameter wants a stand-in; the program's own looks are off. -/
theorem plain (f : FuncId) (fn : Func) (hf : Tryd.pinned.checked.prog.funcNamed Rows.headNameRow.func = some f) (hfn : Tryd.pinned.checked.prog.funcs[f]? = some fn) :
    false = Tryd.pinned.checked.prog.looks [] ∧ ∀ (j : Nat) t, fn.params[j]? = some t → Tryd.pinned.checked.prog.wantsStandIn t = false := by
  obtain rfl : f = 8 := Option.some.inj ((show Tryd.prog.funcNamed Rows.headNameRow.func = some 8 by kernel_rfl).symm.trans hf) |>.symm
  obtain rfl : fn = Tryd.f8 := (Option.some.inj (Tryd.func8.symm.trans hfn)).symm
  refine ⟨by kernel_rfl, fun j t ht => ?_⟩
  rw [Tryd.params8] at ht
  obtain rfl | rfl : t = 9 ∨ t = 3 := by simpa using Array.mem_of_getElem? ht
  · exact (show Tryd.prog.wantsStandIn 9 = false by kernel_rfl)
  · exact (show Tryd.prog.wantsStandIn 3 = false by kernel_rfl)

/-- The statement: the card. -/
theorem proved : Rows.HeadNameCardSaid :=
  Claim7.holds_tied_plain_at .later [] _ _ _ _ said (fun _ h => by cases h) (by kernel_rfl) (fun _ h => by cases h) headName_row_tie rfl ⟨rfl, rfl⟩ (by kernel_rfl) rfl plain (by kernel_rfl)
#print axioms proved
end Go.Proofs.YtagmmdnfbjgmcaaDoor.headName
