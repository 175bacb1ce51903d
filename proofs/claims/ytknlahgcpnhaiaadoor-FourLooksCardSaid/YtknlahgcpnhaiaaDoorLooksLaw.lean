/-
  The law FourLooks holds for every input: for every two texts the call returns true and leaves what was there as it was. No condition of its own; the card: the two listed tables of unicode/utf8 lie as their texts lay them (tied).
-/
import Derived.Test.YtknlahgcpnhaiaaDoorCards
import Derived.Test.YtknlahgcpnhaiaaDoorTie
import Derived.WalkKit
import Derived.ProofKit
import Derived.OpenShut
import Derived.ShutString
import Derived.Test.YtknlahgcpnhaiaaDoorLaid
import Derived.Test.YtknlahgcpnhaiaaDoorFAwake
namespace Go.Proofs.YtknlahgcpnhaiaaDoor.fourLooks
open Go.ChangeShapes Go.WideShapes Go.ChangeAt Go.RowKit
open Go.ChangeMaps (open_string shut_string)
open Go.Shelf
open Go.Proofs.YtknlahgcpnhaiaaDoor.Four
set_option linter.unusedSimpArgs false
set_option linter.unusedVariables false      -- a walk need not use every 'w<i>' (that an integer argument fits its kind)

theorem own : ownKnob Tryd.prog.godebug = none := by kernel_rfl

theorem look_par (l : List UInt8) (h : parB l = true) : lookB l = true := by
  obtain ⟨n, _, rfl, _⟩ := parB_some l h
  exact look_show n
theorem look_plain (l : List UInt8) (h : (46 : UInt8) ∉ l) : lookB l = Deci.plainB l := by unfold lookB; rw [aft_none l h]
theorem look_behind (a l : List UInt8) (h : (46 : UInt8) ∉ l) : lookB (a ++ 46 :: l) = Deci.plainB l := by unfold lookB; rw [aft_dot a l h]

set_option maxRecDepth 100000 in
set_option maxHeartbeats 4000000 in
theorem walkOut (s t : ByteArray) (h : decide ((150 : Int) < s.size) = true ∨ (decide ((150 : Int) < s.size) = false ∧ decide ((150 : Int) < t.size) = true)) (m : Int) (w : World) (hm : Hid (MaxAt m w)) :
    Calls Tryd.prog 6 #[.string s, .string t] w fun e w' => e = .returned (.bool true) ∧ Below w.heap.size w w' := by
  rcases h with h1 | ⟨h1, h2⟩
  all_goals
    go_enter Tryd.func6, Tryd.ntmps6
    go_wp2_with fail
    refine (awake_calls m _ hm.out).mono ?_
    rintro e u1 ⟨rfl, hB1⟩
    go_wp2_with fail
    go_ret
    exact ⟨rfl, hB1⟩

set_option maxRecDepth 100000 in
set_option maxHeartbeats 4000000 in
theorem walkIn (s t : ByteArray) (h1 : decide ((150 : Int) < s.size) = false) (h2 : decide ((150 : Int) < t.size) = false) (hs : s.size ≤ 150) (ht : t.size ≤ 150) (x : Int) (c : Bool) (hx : Hid (parI s.data.toList = x)) (hc : Hid (parB s.data.toList = c)) (hl : Hid (c = true → lookB s.data.toList = true))
    (m : Int) (w : World) (hm : Hid (MaxAt m w)) :
    Calls Tryd.prog 6 #[.string s, .string t] w fun e w' => e = .returned (.bool true) ∧ Below w.heap.size w w' := by
  have HS := Lib.hid hs
  have HT := Lib.hid ht
  have hsz : t.data.toList.length = t.size := rfl
  have HSZ := Lib.hid hsz
  clear hsz
  go_enter Tryd.func6, Tryd.ntmps6
  go_wp2_with fail
  refine (awake_calls m _ hm.out).mono ?_
  rintro e u1 ⟨rfl, hB1⟩
  go_wp2_with fail
  refine (parse_at s (by have := HS.out; omega) x c hx.out hc.out m _ (hm.out.later hB1)).mono ?_
  rintro e u2 ⟨rfl, hB2⟩
  have hB := Lib.hid (Deci.below2 hB1 hB2)
  clear hB1 hB2
  go_wp2_with fail
  go_loop [8] (fun i => ∃ k : Nat, k ≤ t.size ∧ i = .int .i64 k ∧ Hid ((46 : UInt8) ∉ t.data.toList.take k)) (fun i => t.size - (intOf i).toNat)
  case atStart => exact ⟨0, Nat.zero_le _, rfl, Lib.hid (by simp)⟩
  case round =>
    obtain ⟨k, hk, rfl, HN⟩ := hrel
    by_cases hlt : k < t.size
    · have t1 : (k : Int) < t.size := by omega
      by_cases hd : t[k] = 46
      · have b : ((t[k].toNat : Int) == 46) = true := by rw [hd]; rfl
        clear hd
        cases c
        · clear hl
          go_wp2
          go_ret
          exact ⟨rfl, hB.out⟩
        · have hlk := looks_at s (by omega) true (hl.out rfl) u2
          clear hl
          go_wp2_with (go_at_call 15; refine hlk.mono ?_; rintro e u ⟨rfl, rfl⟩)
          go_ret
          exact ⟨rfl, hB.out⟩
      · have b : ((t[k].toNat : Int) == 46) = false := beq_false_of_ne (fun e => hd (UInt8.toNat_inj.1 (by have : (46 : UInt8).toNat = 46 := rfl; omega)))
        have HD := Lib.hid hd
        clear hd
        go_wp2
        go_round
        case rel => exact ⟨k + 1, by omega, by go_num, Lib.hid (by rw [take_snoc t k hlt, List.mem_append, not_or]; exact ⟨HN.out, by simpa using Ne.symm HD.out⟩)⟩
        case measure => simp [intOf]; omega
    · obtain rfl : k = t.size := by omega
      have hno : (46 : UInt8) ∉ t.data.toList := by
        have := HN.out
        rwa [List.take_of_length_le (by rw [HSZ.out]; exact Nat.le_refl _)] at this
      obtain ⟨p, hp⟩ : ∃ p, Deci.plainB t.data.toList = p := ⟨_, rfl⟩
      have hbeh : lookB ((s ++ ⟨#[46]⟩) ++ t).data.toList = p := by
        rw [Deci.text_append, Deci.text_append, List.append_assoc]
        exact (look_behind _ _ hno).trans hp
      have hpl : lookB t.data.toList = p := (look_plain _ hno).trans hp
      have hk1 := looks_at ((s ++ ⟨#[46]⟩) ++ t) (by simp; show s.size + 1 + t.size ≤ 1000000; omega) p hbeh u2
      have hk2 := plain_at t (by omega) p hp u2
      have hk3 := looks_at t (by omega) p hpl u2
      clear hno hbeh hpl hp
      cases c
      · clear hl
        go_wp2_with fail
        refine hk1.mono ?_
        rintro e u ⟨rfl, rfl⟩
        go_wp2_with fail
        refine hk2.mono ?_
        rintro e u ⟨rfl, rfl⟩
        go_wp2_with fail
        refine hk3.mono ?_
        rintro e u ⟨rfl, rfl⟩
        go_wp2_with fail
        refine hk2.mono ?_
        rintro e u ⟨rfl, rfl⟩
        go_wp2
        go_ret
        exact ⟨rfl, hB.out⟩
      · have hlk := looks_at s (by omega) true (hl.out rfl) u2
        clear hl
        go_wp2_with fail
        refine hlk.mono ?_
        rintro e u ⟨rfl, rfl⟩
        go_wp2_with fail
        refine hk1.mono ?_
        rintro e u ⟨rfl, rfl⟩
        go_wp2_with fail
        refine hk2.mono ?_
        rintro e u ⟨rfl, rfl⟩
        go_wp2_with fail
        refine hk3.mono ?_
        rintro e u ⟨rfl, rfl⟩
        go_wp2_with fail
        refine hk2.mono ?_
        rintro e u ⟨rfl, rfl⟩
        go_wp2
        go_ret
        exact ⟨rfl, hB.out⟩

theorem walk (a0 a1 : ByteArray) (w0 : a0.size ≤ maxLen) (w1 : a1.size ≤ maxLen) (m : Int) (w : World) (hm : w.cell? ⟨0, 0, none⟩ = some (.int .i64 m)) :
    Calls Tryd.prog 6 #[.string a0, .string a1] w fun e w' => e = .returned (.bool true) ∧ Below w.heap.size w w' := by
  cases h1 : decide ((150 : Int) < a0.size)
  · cases h2 : decide ((150 : Int) < a1.size)
    · exact walkIn a0 a1 h1 h2 (by simp at h1; omega) (by simp at h2; omega) _ _ (Lib.hid rfl) (Lib.hid rfl) (Lib.hid (look_par _)) m w (Lib.hid hm)
    · exact walkOut a0 a1 (.inr ⟨h1, h2⟩) m w (Lib.hid hm)
  · exact walkOut a0 a1 (.inl h1) m w (Lib.hid hm)

/-! ### The row's step -/
theorem reads (os : Os) {H : Type} (enc : TypeId × Value → H) : (DataW.whole enc Tryd.prog ((Card.laidWorld os).forCall (fun _ _ => 0) ⟨#[], #[.string ByteArray.empty, .string ByteArray.empty], []⟩).memory Tryd.f6.params.toList Rows.fourLooksSpec.vars false (#[.string ByteArray.empty, .string ByteArray.empty] : Array Value).toList 8).map (fun x => (x.1, x.2.1)) = some ([.lit (.string []), .lit (.string [])], []) := by kernel_rfl
set_option maxRecDepth 100000 in
theorem lifted (os : Os) (started : os.Started) (H : Type) (enc : TypeId × Value → H) (F : Stop.Interp) :
    ReturnsInHanded {} Tryd.checked os 6 .any ((OpenSpec.ofChange Rows.fourLooksSpec).preRow enc Tryd.prog Tryd.f6 Rows.fourLooksRow.domain false Rows.fourLooksRow.laid) (((OpenSpec.ofChange Rows.fourLooksSpec).at F).post enc Tryd.prog Tryd.f6 false true false false) := by
  obtain ⟨⟨x1, x2, x3⟩, hx, hx1⟩ := Option.map_eq_some_iff.1 (reads os enc)
  simp only [Prod.mk.injEq] at hx1
  obtain ⟨rfl, rfl⟩ := hx1
  refine returnsInHanded_of_row (C := Tryd.checked) (s := OpenSpec.ofChange Rows.fourLooksSpec) own started (by kernel_rfl) Tryd.func6
    (witness_row_at (enc := enc) (C := Tryd.checked) false (Card.laidWorld os) #[.string ByteArray.empty, .string ByteArray.empty] rfl (by kernel_rfl) (by kernel_rfl) (by kernel_rfl)
      (OpenSpec.preRow_of_cond 8 hx (by kernel_rfl) (fun k hk => by cases hk) (by kernel_rfl) (Card.laid_met os _))) ?_
  intro W base args ds gs before hval0 hW _ _ _ hL hsh _
  obtain ⟨m, hm⟩ := Card.maxLen_int hsh
  have hval : ∀ (j : Nat) t v, Tryd.f6.params[j]? = some t → args[j]? = some v → Value.okWide Tryd.prog W .any base t v := hval0
  have hW' := hW
  obtain ⟨p, q, hA0, hV, rfl, hfz, hnd⟩ := hW
  have hA : DataW.TrodAll enc Tryd.prog W 0 (fun _ => true) true Tryd.f6.params.toList args.toList ds p := hA0
  rw [Tryd.params6] at hA hval
  obtain ⟨v0, vs0, d0, ds0, p0, q0, hargs, rfl, rfl, h0, r0⟩ := trodAll_cons hA
  obtain ⟨v1, vs1, d1, ds1, p1, q1, rfl, rfl, rfl, h1, r1⟩ := trodAll_cons r0
  obtain ⟨rfl, rfl, rfl⟩ := trodAll_nil r1
  obtain rfl : args = #[v0, v1] := by cases args; simp_all
  obtain ⟨rfl, rfl⟩ := trodVars_none hV
  obtain ⟨a0, rfl, rfl, rfl, w0⟩ := open_string Tryd.underlying9 (hval 0 9 v0 rfl rfl) h0
  obtain ⟨a1, rfl, rfl, rfl, w1⟩ := open_string Tryd.underlying9 (hval 1 9 v1 rfl rfl) h1
  clear hA0 hval0
  simp only [List.append_nil] at hW'
  refine (walk a0 a1 w0 w1 m W hm).mono fun e W' ⟨he, hg⟩ => ?_
  subst he
  exact ⟨_, rfl, _, _, _, [], _, [], hW', trodAll_mk1 (shut_bool Tryd.underlying4 _), (trodAll_cons_mk (shut_string Tryd.underlying9 w0) (trodAll_cons_mk (shut_string Tryd.underlying9 w1) trodAll_mk0)), rfl, hg.frame _, fun h => by cases h⟩

theorem said : Rows.fourLooksRow.holds Tryd.pinned (OpenSpec.ofChange Rows.fourLooksSpec) :=
  OpenClaim.holds_of_cond 6 Tryd.f6 rfl rfl rfl rfl rfl rfl rfl ⟨rfl, rfl, rfl, rfl, rfl⟩ rfl rfl rfl rfl rfl (by kernel_rfl) Tryd.func6 (by kernel_rfl)
    (of_decide_eq_true (by kernel_rfl)) (by unfold Func.isWrapper; first | (rw [if_pos (by decide +kernel)]; kernel_rfl) | (rw [if_neg (by decide +kernel)]; exact ⟨rfl, rfl⟩))
    (fun os started H enc _ F => by rw [OpenClaim.pre_eq_preRow]; exact lifted os started H enc F)

/-- No parameter wants a stand-in; the program's own looks are off. -/
theorem plain (f : FuncId) (fn : Func) (hf : Tryd.pinned.checked.prog.funcNamed Rows.fourLooksRow.func = some f) (hfn : Tryd.pinned.checked.prog.funcs[f]? = some fn) :
    false = Tryd.pinned.checked.prog.looks [] ∧ ∀ (j : Nat) t, fn.params[j]? = some t → Tryd.pinned.checked.prog.wantsStandIn t = false := by
  obtain rfl : f = 6 := Option.some.inj ((show Tryd.prog.funcNamed Rows.fourLooksRow.func = some 6 by kernel_rfl).symm.trans hf) |>.symm
  obtain rfl : fn = Tryd.f6 := (Option.some.inj (Tryd.func6.symm.trans hfn)).symm
  refine ⟨by kernel_rfl, fun j t ht => ?_⟩
  rw [Tryd.params6] at ht
  obtain rfl : t = 9 := by simpa using Array.mem_of_getElem? ht
  · exact (show Tryd.prog.wantsStandIn 9 = false by kernel_rfl)

/-- The statement: the card. -/
theorem proved : Rows.FourLooksCardSaid :=
  Claim7.holds_tied_plain_at .later [] _ _ _ _ said (fun _ h => by cases h) (by kernel_rfl) (fun _ h => by cases h) fourLooks_row_tie rfl ⟨rfl, rfl⟩ (by kernel_rfl) rfl plain (by kernel_rfl)
#print axioms proved
end Go.Proofs.YtknlahgcpnhaiaaDoor.fourLooks
