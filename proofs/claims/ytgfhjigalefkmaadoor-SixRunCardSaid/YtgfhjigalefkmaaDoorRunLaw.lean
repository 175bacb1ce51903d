/-
  The law SixRun holds for every input: for any eight ints and any two ints the call returns true and leaves what was there as it was. No condition of its own; the card: the five listed tables lie as their texts lay them (tied).
-/
import Derived.Test.YtgfhjigalefkmaaDoorCards
import Derived.Test.YtgfhjigalefkmaaDoorTie
import Derived.WalkKit
import Derived.ProofKit
import Derived.OpenShut
import Derived.ShutString
import Derived.Test.YtgfhjigalefkmaaDoorSOpen
namespace Go.Proofs.YtgfhjigalefkmaaDoor.sixRun
open Go.ChangeShapes Go.WideShapes Go.ChangeAt Go.RowKit
open Go.ChangeMaps (open_string shut_string)
open Go.Shelf
open Go.Proofs.YtgfhjigalefkmaaDoor.Six
set_option linter.unusedSimpArgs false
set_option linter.unusedVariables false

theorem own : ownKnob Tryd.prog.godebug = none := by kernel_rfl

set_option maxRecDepth 100000 in
set_option maxHeartbeats 4000000 in
theorem walkRow (p : List Int) (h8 : p.length = 8) (i k : Int) (A n : Nat) (hr : runP p = (A, n))
    (hi : decide (i < 0) = true ∨ (decide (i < 0) = false ∧ decide (k < 2) = true) ∨ (decide (i < 0) = false ∧ decide (k < 2) = false ∧ decide (8 - k < i) = true ∧ 2 ≤ k ∧ k ≤ 9223372036854775807) ∨
      (∃ i' k' : Nat, i = (i' : Int) ∧ k = (k' : Int) ∧ decide ((i' : Int) < 0) = false ∧ decide ((k' : Int) < 2) = false ∧ decide (8 - (k' : Int) < (i' : Int)) = false ∧ decide (8 < (k' : Int)) = false ∧ i' + k' ≤ 8 ∧ 2 ≤ k'))
    (m : Int) (w : World) (hm : At m w) :
    Calls Tryd.prog 6 #[.agg (arr p), .int .i64 i, .int .i64 k] w fun e w' => e = .returned (.bool true) ∧ Below w.heap.size w w' := by
  have HB := Lib.hid (show Below w.heap.size w (w.alloc (.cells (arr p) 22)) from (Below.refl _ w).alloc (Nat.le_refl _) _)
  have HR := Lib.hid (RowAt.new w p)
  have HM := Lib.hid (hm.later HB.out)
  have H8 := Lib.hid h8
  have hf := run_fits p h8
  rw [hr] at hf
  simp only at hf
  obtain ⟨f1, f2, f3, f4⟩ := hf
  have HZ := Lib.hid f4
  have HMost := Lib.hid (show ∀ a b : Nat, 2 ≤ b → a + b ≤ 8 → Row0 p a b → b < n ∨ (b = n ∧ A ≤ a) from fun a b h1 h2 h3 => by have := run_most p h8 a b h1 h2 h3; rw [hr] at this; exact this)
  have hrun := fun u => run_any p h8 u
  rw [hr] at hrun
  have HRun := Lib.hid hrun
  have a1 : decide ((A : Int) < 0) = false := decide_eq_false (by omega)
  have a2 : decide ((n : Int) < 0) = false := decide_eq_false (by omega)
  have a3 : decide (8 < (A : Int)) = false := decide_eq_false (by omega)
  have a4 : decide (8 - (A : Int) < (n : Int)) = false := decide_eq_false (by omega)
  have a5 : ((n : Int) == 1) = false := beq_false_of_ne (by omega)
  have a6 : (((n : Int) == 0) = true ∧ ((A : Int) != 0) = false) ∨ ((n : Int) == 0) = false := by
    by_cases h : n = 0
    · refine .inl ⟨by rw [beq_iff_eq]; omega, ?_⟩
      have := f3 h
      subst this
      rfl
    · exact .inr (beq_false_of_ne (by omega))
  clear h8 hm hr f4 hrun f3 f2
  go_enter Tryd.func6, Tryd.ntmps6
  go_wp2_with fail
  generalize w.alloc (.cells (arr p) 22) = W at HB HR HM ⊢
  refine (awake_calls m _ HM.out).mono ?_
  rintro e u1 ⟨rfl, hB1⟩
  have HR1 := Lib.hid (HR.out.later hB1)
  have HB1 := Lib.hid (Ascii.below2 HB.out hB1)
  clear hB1 HR HB HM
  go_wp2_with (refine wp_load22 rfl _ rfl w.heap.size rfl p H8.out HR1.out ?_)
  refine (HRun.out _).mono ?_
  rintro e u2 ⟨rfl, hB2⟩
  have HR2 := Lib.hid (HR1.out.later hB2)
  have HB2 := Lib.hid (Ascii.below2 HB1.out hB2)
  clear hB2 HR1 HB1 HRun
  rcases a6 with ⟨a6, a7⟩ | a6
  all_goals
    go_wp2
    go_loopw [10] (fun j wr => ∃ q : Nat, A ≤ q ∧ q ≤ A + n ∧ j = .int .i64 q ∧ wr = u2) (fun j _ => A + n - (intOf j).toNat)
    case atStart => exact ⟨A, Nat.le_refl _, by omega, rfl, rfl⟩
    case round =>
      obtain ⟨q, hq1, hq2, rfl, rfl⟩ := hrel
      by_cases hlt : q < A + n
      · have t1 : decide ((q : Int) < (A : Int) + (n : Int)) = true := decide_eq_true (by omega)
        have hc : wr.cell? ⟨w.heap.size, q, none⟩ = some (.int .i64 0) := by
          obtain ⟨h1, h2⟩ := List.getElem?_eq_some_iff.1 (HZ.out q hq1 hlt)
          rw [HR2.out.cell _ h1, h2]
        have hq8 : q < 8 := by omega
        go_wp2
        go_roundw
        case rel => exact ⟨q + 1, by omega, by omega, by go_num, by first | trivial | rfl⟩
        case measure => simp [intOf]; omega
      · have t1 : decide ((q : Int) < (A : Int) + (n : Int)) = false := decide_eq_false (by omega)
        rcases hi with b1 | ⟨b1, b2⟩ | ⟨b1, b2, b3, b4, b5⟩ | ⟨i', k', rfl, rfl, b1, b2, b3, b4, b5, b6⟩
        · go_wp2
          go_ret
          exact ⟨rfl, HB2.out⟩
        · go_wp2
          go_ret
          exact ⟨rfl, HB2.out⟩
        · go_wp2
          go_ret
          exact ⟨rfl, HB2.out⟩
        · go_wp2
          clear hlt t1 hq1 hq2 a1 a2 a3 a4 a5 a6
          go_loopw [11] (fun j wx => ∃ q : Nat, i' ≤ q ∧ q ≤ i' + k' ∧ j = .int .i64 q ∧ Hid (∀ x, i' ≤ x → x < q → p[x]? = some 0) ∧ wx = wr) (fun j _ => i' + k' - (intOf j).toNat)
          case atStart => exact ⟨i', Nat.le_refl _, by omega, rfl, Lib.hid (fun x h1 h2 => absurd h2 (by omega)), rfl⟩
          case round =>
            obtain ⟨q, hq1, hq2, rfl, HQ, rfl⟩ := hrel
            by_cases hlt : q < i' + k'
            · have t1 : decide ((q : Int) < (i' : Int) + (k' : Int)) = true := decide_eq_true (by omega)
              have hqp : q < p.length := by have := H8.out; omega
              have hc := HR2.out.cell q hqp
              obtain ⟨z, hz⟩ : ∃ z, p[q] = z := ⟨_, rfl⟩
              rw [hz] at hc
              have HQ2 := Lib.hid (show z = 0 → ∀ x, i' ≤ x → x < q + 1 → p[x]? = some 0 from fun h0 x h1 h2 => by
                by_cases e : x = q
                · subst e; rw [List.getElem?_eq_getElem hqp, hz, h0]
                · exact HQ.out x h1 (by omega))
              have hq8 : q < 8 := by omega
              clear hz hqp
              by_cases h0 : z = 0
              · have HQ3 := Lib.hid (HQ2.out h0)
                clear HQ2
                subst h0
                go_wp2
                go_roundw
                case rel => exact ⟨q + 1, by omega, by omega, by go_num, HQ3, by first | trivial | rfl⟩
                case measure => simp [intOf]; omega
              · have t2 : (z != 0) = true := by simpa using h0
                clear h0 HQ2
                go_wp2
                go_ret
                exact ⟨rfl, HB2.out⟩
            · have t1 : decide ((q : Int) < (i' : Int) + (k' : Int)) = false := decide_eq_false (by omega)
              have hmost := HMost.out i' k' b6 b5 (fun x h1 h2 => HQ.out x h1 (by omega))
              have hfin : (decide (k' < n) = true) ∨ (decide (k' < n) = false ∧ ((k' : Int) == (n : Int)) = true ∧ decide (A ≤ i') = true) := by
                rcases hmost with h | ⟨h, h2⟩
                · exact .inl (decide_eq_true h)
                · exact .inr ⟨decide_eq_false (by omega), by rw [beq_iff_eq]; omega, decide_eq_true h2⟩
              clear hmost
              rcases hfin with c1 | ⟨c1, c2, c3⟩
              · go_wp2
                go_ret
                exact ⟨rfl, HB2.out⟩
              · go_wp2
                go_ret
                exact ⟨rfl, HB2.out⟩
theorem walk (p : List Int) (h8 : p.length = 8) (i k : Int) (w0 : ∀ z ∈ p, (Lit.int .i64 z).wf = true) (w1 : (Lit.int .i64 i).wf = true) (w2 : (Lit.int .i64 k).wf = true) (m : Int) (w : World) (hm : At m w) :
    Calls Tryd.prog 6 #[.agg (arr p), .int .i64 i, .int .i64 k] w fun e w' => e = .returned (.bool true) ∧ Below w.heap.size w w' := by
  have hb : k ≤ 9223372036854775807 := by
    simp [Lit.wf, IntKind.wrap, IntKind.bits, IntKind.signed] at w2
    omega
  refine walkRow p h8 i k (runP p).1 (runP p).2 rfl ?_ m w hm
  by_cases h1 : i < 0
  · exact .inl (decide_eq_true h1)
  · by_cases h2 : k < 2
    · exact .inr (.inl ⟨decide_eq_false h1, decide_eq_true h2⟩)
    · by_cases h3 : 8 - k < i
      · exact .inr (.inr (.inl ⟨decide_eq_false h1, decide_eq_false h2, decide_eq_true h3, by omega, hb⟩))
      · obtain ⟨i', rfl⟩ : ∃ i' : Nat, i = (i' : Int) := ⟨i.toNat, by omega⟩
        obtain ⟨k', rfl⟩ : ∃ k' : Nat, k = (k' : Int) := ⟨k.toNat, by omega⟩
        exact .inr (.inr (.inr ⟨i', k', rfl, rfl, decide_eq_false h1, decide_eq_false h2, decide_eq_false h3, decide_eq_false (by omega), by omega, by omega⟩))

/-! ### The row's step -/
theorem reads (os : Os) {H : Type} (enc : TypeId × Value → H) : (DataW.whole enc Tryd.prog ((Card.laidWorld os).forCall (fun _ _ => 0) ⟨#[], #[.agg #[.int .i64 0, .int .i64 0, .int .i64 0, .int .i64 0, .int .i64 0, .int .i64 0, .int .i64 0, .int .i64 0], .int .i64 0, .int .i64 0], []⟩).memory Tryd.f6.params.toList Rows.sixRunSpec.vars false (#[.agg #[.int .i64 0, .int .i64 0, .int .i64 0, .int .i64 0, .int .i64 0, .int .i64 0, .int .i64 0, .int .i64 0], .int .i64 0, .int .i64 0] : Array Value).toList 8).map (fun x => (x.1, x.2.1)) = some ([.agg [.lit (.int .i64 0), .lit (.int .i64 0), .lit (.int .i64 0), .lit (.int .i64 0), .lit (.int .i64 0), .lit (.int .i64 0), .lit (.int .i64 0), .lit (.int .i64 0)], .lit (.int .i64 0), .lit (.int .i64 0)], []) := by kernel_rfl
set_option maxRecDepth 100000 in
theorem lifted (os : Os) (started : os.Started) (H : Type) (enc : TypeId × Value → H) (F : Stop.Interp) :
    ReturnsInHanded {} Tryd.checked os 6 .any ((OpenSpec.ofChange Rows.sixRunSpec).preRow enc Tryd.prog Tryd.f6 Rows.sixRunRow.domain false Rows.sixRunRow.laid) (((OpenSpec.ofChange Rows.sixRunSpec).at F).post enc Tryd.prog Tryd.f6 false true false false) := by
  obtain ⟨⟨x1, x2, x3⟩, hx, hx1⟩ := Option.map_eq_some_iff.1 (reads os enc)
  simp only [Prod.mk.injEq] at hx1
  obtain ⟨rfl, rfl⟩ := hx1
  refine returnsInHanded_of_row (C := Tryd.checked) (s := OpenSpec.ofChange Rows.sixRunSpec) own started (by kernel_rfl) Tryd.func6
    (witness_row_at (enc := enc) (C := Tryd.checked) false (Card.laidWorld os) #[.agg #[.int .i64 0, .int .i64 0, .int .i64 0, .int .i64 0, .int .i64 0, .int .i64 0, .int .i64 0, .int .i64 0], .int .i64 0, .int .i64 0] rfl (by kernel_rfl) (by kernel_rfl) (by kernel_rfl)
      (OpenSpec.preRow_of_cond 8 hx (by kernel_rfl) (fun k hk => by cases hk) (by kernel_rfl) (Card.laid_met os _))) ?_
  intro W base args ds gs before hval0 hW _ _ _ hL hsh _
  obtain ⟨m, hmax⟩ := Card.maxLen_int hsh
  have hm : At m W := ⟨hmax, tab_of hL⟩
  have hval : ∀ (j : Nat) t v, Tryd.f6.params[j]? = some t → args[j]? = some v → Value.okWide Tryd.prog W .any base t v := hval0
  have hW' := hW
  obtain ⟨p, q, hA0, hV, rfl, hfz, hnd⟩ := hW
  have hA : DataW.TrodAll enc Tryd.prog W 0 (fun _ => true) true Tryd.f6.params.toList args.toList ds p := hA0
  rw [Tryd.params6] at hA hval
  obtain ⟨v0, vs0, d0, ds0, p0, q0, hargs0, rfl, rfl, t0, r0⟩ := trodAll_cons hA
  obtain ⟨v1, vs1, d1, ds1, p1, q1, hargs1, rfl, rfl, t1, r1⟩ := trodAll_cons r0
  obtain ⟨v2, vs2, d2, ds2, p2, q2, hargs2, rfl, rfl, t2, r2⟩ := trodAll_cons r1
  obtain ⟨rfl, rfl, rfl⟩ := trodAll_nil r2
  obtain rfl : args = #[v0, v1, v2] := by cases args; simp_all
  obtain ⟨rfl, rfl⟩ := trodVars_none hV
  obtain ⟨a0, l0, rfl, rfl, rfl, w0⟩ := open_row8 (hval 0 22 v0 rfl rfl) t0
  obtain ⟨a1, rfl, rfl, rfl, w1⟩ := open_int Tryd.underlying3 (hval 1 3 v1 rfl rfl) t1
  obtain ⟨a2, rfl, rfl, rfl, w2⟩ := open_int Tryd.underlying3 (hval 2 3 v2 rfl rfl) t2
  clear hA0 hval0
  simp only [List.append_nil] at hW'
  refine (walk a0 l0 a1 a2 w0 w1 w2 m W hm).mono fun e W' ⟨he, hg⟩ => ?_
  subst he
  exact ⟨_, rfl, _, _, _, [], _, [], hW', trodAll_mk1 (shut_bool Tryd.underlying4 _), (trodAll_cons_mk (shut_row8 l0 w0) (trodAll_cons_mk (shut_int Tryd.underlying3 w1) (trodAll_cons_mk (shut_int Tryd.underlying3 w2) trodAll_mk0))), rfl, hg.frame _, fun h => by cases h⟩

theorem said : Rows.sixRunRow.holds Tryd.pinned (OpenSpec.ofChange Rows.sixRunSpec) :=
  OpenClaim.holds_of_cond 6 Tryd.f6 rfl rfl rfl rfl rfl rfl rfl ⟨rfl, rfl, rfl, rfl, rfl⟩ rfl rfl rfl rfl rfl (by kernel_rfl) Tryd.func6 (by kernel_rfl)
    (of_decide_eq_true (by kernel_rfl)) (by unfold Func.isWrapper; first | (rw [if_pos (by decide +kernel)]; kernel_rfl) | (rw [if_neg (by decide +kernel)]; exact ⟨rfl, rfl⟩))
    (fun os started H enc _ F => by rw [OpenClaim.pre_eq_preRow]; exact lifted os started H enc F)

/-- No parameter wants a stand-in; the program's own looks are off. -/
theorem plain (f : FuncId) (fn : Func) (hf : Tryd.pinned.checked.prog.funcNamed Rows.sixRunRow.func = some f) (hfn : Tryd.pinned.checked.prog.funcs[f]? = some fn) :
    false = Tryd.pinned.checked.prog.looks [] ∧ ∀ (j : Nat) t, fn.params[j]? = some t → Tryd.pinned.checked.prog.wantsStandIn t = false := by
  obtain rfl : f = 6 := Option.some.inj ((show Tryd.prog.funcNamed Rows.sixRunRow.func = some 6 by kernel_rfl).symm.trans hf) |>.symm
  obtain rfl : fn = Tryd.f6 := (Option.some.inj (Tryd.func6.symm.trans hfn)).symm
  refine ⟨by kernel_rfl, fun j t ht => ?_⟩
  rw [Tryd.params6] at ht
  obtain rfl | rfl : t = 22 ∨ t = 3 := by simpa using Array.mem_of_getElem? ht
  · exact (show Tryd.prog.wantsStandIn 22 = false by kernel_rfl)
  · exact (show Tryd.prog.wantsStandIn 3 = false by kernel_rfl)

/-- The statement: the card. -/
theorem proved : Rows.SixRunCardSaid :=
  Claim7.holds_tied_plain_at .later [] _ _ _ _ said (fun _ h => by cases h) (by kernel_rfl) (fun _ h => by cases h) sixRun_row_tie rfl ⟨rfl, rfl⟩ (by kernel_rfl) rfl plain (by kernel_rfl)
#print axioms proved
end Go.Proofs.YtgfhjigalefkmaaDoor.sixRun
