/-
  WHAT IS PROVED: the card of UrlSame: of any three addresses whose parts are few and short: an address is the same as itself; two are the same just if the second is the same as the first, and then both are the same as the third, or neither is, and both may be, or neither may; with another port, another mark of a query or one more piece of path it is another one.
  CONDITIONS: none but the card's own: the listed tables read as their texts lay them; the addresses are any.
-/
import Derived.Test.YtfdhhjigpboieaaGreatDoorCards
import Derived.Test.YtfdhhjigpboieaaGreatDoorTie
import Derived.WalkKit
import Derived.ProofKit
import Derived.OpenShut
import Derived.ShutString
import Derived.ChangeOld
import Derived.Below
import Derived.Deep.RegionHeld
import Derived.Laws.AppendOwnNone
import Derived.Test.YtfdhhjigpboieaaGreatDoorUQuiet
namespace Go.Proofs.YtfdhhjigpboieaaGreatDoor.urlSame
open Go.ChangeShapes Go.WideShapes Go.ChangeAt Go.RowKit
open Go.ChangeMaps (open_string shut_string)
open Go.Shelf
open Go.Proofs.YtfdhhjigpboieaaGreatDoor.Url
open Go.Proofs.YtfdhhjigpboieaaGreatDoor.Host (H)
open Go.Proofs.YtfdhhjigpboieaaGreatDoor.Path (Strs)
set_option linter.unusedSimpArgs false
set_option linter.unusedVariables false

theorem own : ownKnob Tryz.prog.godebug = none := by kernel_rfl
theorem laidOut : laidOutB Tryz.prog = true := by kernel_rfl

theorem wrap_next (p : Int) (hp : (Lit.int .i64 p).wf = true) : (p == wrap64 (p + 1)) = false := by
  refine beq_eq_false_iff_ne.2 (fun e => ?_)
  have h1 : -9223372036854775808 ≤ p ∧ p ≤ 9223372036854775807 := by
    have := hp
    simp only [Lit.wf, IntKind.min, IntKind.max, IntKind.signed, IntKind.bits, Bool.and_eq_true, decide_eq_true_eq, if_true] at this
    omega
  by_cases h : p = 9223372036854775807
  · subst h
    unfold wrap64 at e
    omega
  · rw [IntWalk.wrap64_in (p + 1) ⟨by omega, by omega⟩] at e
    omega
theorem same_port (u : U) (p : Int) (h : (u.port == p) = false) : sameU u { u with port := p } = false := by
  cases hs : sameU u { u with port := p }
  · rfl
  · have := (same_iff _ _).1 hs
    have e : u.port = p := congrArg U.port this
    rw [e] at h; simp at h
theorem same_hq (u : U) : sameU u { u with hq := !u.hq } = false := by
  cases hs : sameU u { u with hq := !u.hq }
  · rfl
  · have := (same_iff _ _).1 hs
    have e : u.hq = !u.hq := congrArg U.hq this
    cases h : u.hq <;> rw [h] at e <;> cases e
theorem same_path (u : U) : sameU u { u with path := u.path ++ [[]] } = false := by
  cases hs : sameU u { u with path := u.path ++ [[]] }
  · rfl
  · have := (same_iff _ _).1 hs
    have e : u.path = u.path ++ [[]] := congrArg U.path this
    have := congrArg List.length e
    simp at this
theorem same_symm (u v : U) : sameU v u = sameU u v := by
  cases h : sameU u v
  · cases h' : sameU v u
    · rfl
    · rw [(same_iff _ _).1 h', (same_iff u u).2 rfl] at h; cases h
  · rw [(same_iff _ _).1 h]; exact (same_iff _ _).2 rfl
theorem wp_app_strs {ops : Array Oper} {rest : List Oper} {o : Oper} {a : Act} {w : World} {Q : Exit → Act → World → Prop} (hgd : o.guard = none) (x : Operand)
    (ho : o.op = .call { callee := .builtin .append, args := #[.const (.slice none 0 0), x], argTypes := #[25, 25] }) (v : Value) (l : List T) (hx : a.eval x = v) (hs : Path.Strs w v l) (hl : l.length ≤ 100000)
    (base : Nat) (hb : base ≤ w.heap.size)
    (h : ∀ v' w', w'.ownsRow base 9 1 v' l.length (l.map Path.tx) → w.grownBy w' none → wpList Tryz.prog ops Q rest (a.put o.dst v') w') : wpList Tryz.prog ops Q (o :: rest) a w := by
  obtain ⟨i0, hi, hz0, hz1, hz2⟩ := info_parts Path.infoText
  obtain ⟨ad, c, rfl, h1, h2, h3, h4⟩ := hs
  have hnil := World.ownsRow_nil w base 9 1
  by_cases hn : l = []
  · subst hn
    cases ad with
    | none =>
      obtain rfl := h3 rfl
      exact wpList_append_own_none hgd (.const (.slice none 0 0)) x 25 ho base 9 i0 1 Tryz.underlying25 hi (.slice none 0 0) 0 [] rfl hnil hx (h _ _ hnil (World.grownBy.refl w _))
    | some p =>
      refine wpList_append_own _ hgd (.const (.slice none 0 0)) x 25 ho base 9 i0 (.string ⟨#[]⟩) 1 16 Tryz.underlying25 hi hz0 hz1 hz2 rfl (by decide) (.slice none 0 0) 0 [] rfl hnil p 0 c [] hx rfl (fun j u hu => by simp at hu) (fun u hu => by simp at hu) (by decide) (by decide) hb ?_
      intro v' w' g1 g2 g3
      exact h v' w' g1 g2
  · obtain ⟨b, off, rfl, hc⟩ := h4 hn
    refine wpList_append_own _ hgd (.const (.slice none 0 0)) x 25 ho base 9 i0 (.string ⟨#[]⟩) 1 16 Tryz.underlying25 hi hz0 hz1 hz2 rfl (by decide) (.slice none 0 0) 0 [] rfl hnil ⟨b, off, none⟩ l.length c (l.map Path.tx) hx (by simp) (fun j u hu => ?_) (fun u hu => ?_) (by unfold maxLen; omega) (by omega) hb ?_
    · have hj : j < l.length := by
        have := (List.getElem?_eq_some_iff.1 hu).1
        simpa using this
      have e := hc j hj
      rw [List.getElem?_map, List.getElem?_eq_getElem hj] at hu
      have hadd : (⟨b, off, none⟩ : Addr).add j = ⟨b, off + j, none⟩ := by unfold Addr.add; split <;> simp_all
      rw [hadd, e]
      simpa [Path.tx] using hu
    · obtain ⟨y, _, rfl⟩ := List.mem_map.1 hu
      rfl
    · intro v' w' g1 g2 g3
      refine h v' w' ?_ g2
      simpa using g1
theorem row_below {W w2 : World} {base B : Nat} {v : Value} {k : Nat} {xs : List Value} (hrow : W.ownsRow base 9 1 v k xs) (hb : B ≤ W.heap.size) (hB : B ≤ base) (hgrow : W.grownBy w2 v.ownBlock) : Below B W w2 := by
  refine (Below.refl B W).grown hgrow hb fun j ej => ?_
  rcases hrow.2 with ⟨rfl, _⟩ | ⟨g, cap, cur, rfl, hb, _, _⟩
  · simp [Value.ownBlock] at ej
  · obtain rfl : g = j := by simpa [Value.ownBlock] using ej
    omega
theorem none_below {W w2 : World} {B : Nat} (hb : B ≤ W.heap.size) (hgrow : W.grownBy w2 none) : Below B W w2 := (Below.refl B W).grown hgrow hb fun j ej => by cases ej
set_option maxRecDepth 100000 in
set_option maxHeartbeats 16000000 in
theorem walk (a0 : U) (v0 : Value) (l0 : a0.h.p.length = 8) (a1 : U) (v1 : Value) (l1 : a1.h.p.length = 8) (a2 : U) (v2 : Value) (l2 : a2.h.p.length = 8) (m : Int) (w : World) (hm : Six.At m w)
    (s0 : Path.Strs w v0 a0.path) (w0 : (Lit.int .i64 a0.port).wf = true) (s1 : Path.Strs w v1 a1.path) (w1 : (Lit.int .i64 a1.port).wf = true) (s2 : Path.Strs w v2 a2.path) (w2 : (Lit.int .i64 a2.port).wf = true) :
    Calls Tryz.prog 10 #[.agg (cU a0 v0), .agg (cU a1 v1), .agg (cU a2 v2)] w fun e w' => e = .returned (.bool true) ∧ Below w.heap.size w w' := by
  have e1 : (w.alloc (.cells (cU a0 v0) 27)).heap.size = w.heap.size + 1 := Array.size_push _
  have e2 : ((w.alloc (.cells (cU a0 v0) 27)).alloc (.cells (cU a1 v1) 27)).heap.size = w.heap.size + 2 := by
    have : ((w.alloc (.cells (cU a0 v0) 27)).alloc (.cells (cU a1 v1) 27)).heap.size = (w.alloc (.cells (cU a0 v0) 27)).heap.size + 1 := Array.size_push _
    omega
  have b1 := (Below.refl w.heap.size w).alloc (Nat.le_refl _) (.cells (cU a0 v0) 27)
  have b2 := b1.alloc (by omega) (.cells (cU a1 v1) 27)
  have HB0 := Lib.hid (b2.alloc (by omega) (.cells (cU a2 v2) 27))
  have HU0 := Lib.hid (((UrlAt.new w a0 v0).past (.cells (cU a1 v1) 27)).past (.cells (cU a2 v2) 27))
  have HV0 := Lib.hid (show UrlAt (((w.alloc (.cells (cU a0 v0) 27)).alloc (.cells (cU a1 v1) 27)).alloc (.cells (cU a2 v2) 27)) (w.heap.size + 1) a1 v1 from by rw [← e1]; exact (UrlAt.new _ a1 v1).past _)
  have HW0 := Lib.hid (show UrlAt (((w.alloc (.cells (cU a0 v0) 27)).alloc (.cells (cU a1 v1) 27)).alloc (.cells (cU a2 v2) 27)) (w.heap.size + 2) a2 v2 from by rw [← e2]; exact UrlAt.new _ a2 v2)
  have HM0 := Lib.hid (hm.later HB0.out)
  have HS0 := Lib.hid (s0.later HB0.out)
  have HT0 := Lib.hid (s1.later HB0.out)
  have HR0 := Lib.hid (s2.later HB0.out)
  have W0 := Lib.hid w0
  clear e1 e2 b1 b2 hm s0 s1 s2 w0 w1 w2
  go_enter Tryz.func10, Tryz.ntmps10
  go_wp2_with fail
  generalize ((w.alloc (.cells (cU a0 v0) 27)).alloc (.cells (cU a1 v1) 27)).alloc (.cells (cU a2 v2) 27) = X0 at HB0 HU0 HV0 HW0 HM0 HS0 HT0 HR0 ⊢
  refine (awake_calls m X0 HM0.out).mono ?_
  rintro e X1 ⟨rfl, hB1⟩
  have HB1 := Lib.hid (Ascii.below2 HB0.out hB1)
  have HU1 := Lib.hid (HU0.out.later hB1)
  have HV1 := Lib.hid (HV0.out.later hB1)
  have HW1 := Lib.hid (HW0.out.later hB1)
  have HM1 := Lib.hid (HM0.out.later hB1)
  have HS1 := Lib.hid (HS0.out.later hB1)
  have HT1 := Lib.hid (HT0.out.later hB1)
  have HR1 := Lib.hid (HR0.out.later hB1)
  clear HB0 HU0 HV0 HW0 HM0 HS0 HT0 HR0 hB1
  obtain ⟨f0, hf0⟩ : ∃ b, fewU a0 = b := ⟨_, rfl⟩
  go_wp2_with ((with_reducible refine wp_load27 (o := ⟨some 16, .load 27 (.tmp 3), _, _, _, _⟩) ?_ (.tmp 3) ?_ w.heap.size ?_ a0 v0 l0 HU1.out ?_); (· rfl); (· rfl); (· rfl); simp only [Act.put, List.setIfInBounds_toArray, List.set_cons_zero, List.set_cons_succ])
  refine (few_any a0 v0 l0 f0 hf0 _ HS1.out).mono ?_
  rintro e X2 ⟨rfl, hB2⟩
  have HB2 := Lib.hid (Ascii.below2 HB1.out hB2)
  have HU2 := Lib.hid (HU1.out.later hB2)
  have HV2 := Lib.hid (HV1.out.later hB2)
  have HW2 := Lib.hid (HW1.out.later hB2)
  have HM2 := Lib.hid (HM1.out.later hB2)
  have HS2 := Lib.hid (HS1.out.later hB2)
  have HT2 := Lib.hid (HT1.out.later hB2)
  have HR2 := Lib.hid (HR1.out.later hB2)
  clear HB1 HU1 HV1 HW1 HM1 HS1 HT1 HR1 hB2
  obtain ⟨f1, hf1⟩ : ∃ b, fewU a1 = b := ⟨_, rfl⟩
  go_wp2_with ((with_reducible refine wp_load27 (o := ⟨some 18, .load 27 (.tmp 4), _, _, _, _⟩) ?_ (.tmp 4) ?_ (w.heap.size + 1) ?_ a1 v1 l1 HV2.out ?_); (· rfl); (· rfl); (· rfl); simp only [Act.put, List.setIfInBounds_toArray, List.set_cons_zero, List.set_cons_succ])
  refine (few_any a1 v1 l1 f1 hf1 _ HT2.out).mono ?_
  rintro e X3 ⟨rfl, hB3⟩
  have HB3 := Lib.hid (Ascii.below2 HB2.out hB3)
  have HU3 := Lib.hid (HU2.out.later hB3)
  have HV3 := Lib.hid (HV2.out.later hB3)
  have HW3 := Lib.hid (HW2.out.later hB3)
  have HM3 := Lib.hid (HM2.out.later hB3)
  have HS3 := Lib.hid (HS2.out.later hB3)
  have HT3 := Lib.hid (HT2.out.later hB3)
  have HR3 := Lib.hid (HR2.out.later hB3)
  clear HB2 HU2 HV2 HW2 HM2 HS2 HT2 HR2 hB3
  obtain ⟨f2, hf2⟩ : ∃ b, fewU a2 = b := ⟨_, rfl⟩
  go_wp2_with ((with_reducible refine wp_load27 (o := ⟨some 20, .load 27 (.tmp 5), _, _, _, _⟩) ?_ (.tmp 5) ?_ (w.heap.size + 2) ?_ a2 v2 l2 HW3.out ?_); (· rfl); (· rfl); (· rfl); simp only [Act.put, List.setIfInBounds_toArray, List.set_cons_zero, List.set_cons_succ])
  refine (few_any a2 v2 l2 f2 hf2 _ HR3.out).mono ?_
  rintro e X4 ⟨rfl, hB4⟩
  have HB4 := Lib.hid (Ascii.below2 HB3.out hB4)
  have HU4 := Lib.hid (HU3.out.later hB4)
  have HV4 := Lib.hid (HV3.out.later hB4)
  have HW4 := Lib.hid (HW3.out.later hB4)
  have HM4 := Lib.hid (HM3.out.later hB4)
  have HS4 := Lib.hid (HS3.out.later hB4)
  have HT4 := Lib.hid (HT3.out.later hB4)
  have HR4 := Lib.hid (HR3.out.later hB4)
  clear HB3 HU3 HV3 HW3 HM3 HS3 HT3 HR3 hB4
  cases f0
  · go_wp2
    go_ret
    exact ⟨rfl, HB4.out⟩
  cases f1
  · go_wp2
    go_ret
    exact ⟨rfl, HB4.out⟩
  cases f2
  · go_wp2
    go_ret
    exact ⟨rfl, HB4.out⟩
  have F0 := Lib.hid (few_fit a0 l0 hf0)
  have F1 := Lib.hid (few_fit a1 l1 hf1)
  have hone := strs_one HS4.out
  have Q14 := Lib.hid (wrap_next a0.port W0.out)
  clear W0 hf0 hf1 hf2
  have c14 := HU4.out.cell 14
  rw [(cU_at a0 v0 l0).2.2.2.2.1] at c14
  have hnew := new_url X4
  have hb5 := below_url X4 a0 v0
  have HX5 := Lib.hid (hnew.row a0 v0)
  have HU5 := Lib.hid (HU4.out.later hb5)
  go_upto_region 8 with (first | ((with_reducible refine wp_load27 (o := ⟨some 37, .load 27 (.tmp 3), _, _, _, _⟩) ?_ (.tmp 3) ?_ w.heap.size ?_ a0 v0 l0 HU4.out ?_); (· rfl); (· rfl); (· rfl); simp only [Act.put, List.setIfInBounds_toArray, List.set_cons_zero, List.set_cons_succ]) | ((with_reducible refine wp_store27 (o := ⟨none, .store 27 (.tmp 11) (.tmp 37), _, _, _, _⟩) ?_ (.tmp 11) (.tmp 37) ?_ X4.heap.size ?_ a0 v0 ?_ l0 hone none1 (.slice none 0 0) rfl hnew ?_); (· rfl); (· rfl); (· rfl); (· rfl); simp only [Act.put, List.setIfInBounds_toArray, List.set_cons_zero, List.set_cons_succ]))
  generalize (X4.alloc (.cells #[.string ⟨#[]⟩, .string ⟨#[]⟩, .string ⟨#[]⟩, .int .i64 0, .string ⟨#[]⟩, .int .i64 0, .int .i64 0, .int .i64 0, .int .i64 0, .int .i64 0, .int .i64 0, .int .i64 0, .int .i64 0, .int .i64 0, .int .i64 0, .slice none 0 0, .string ⟨#[]⟩, .string ⟨#[]⟩, .string ⟨#[]⟩, .bool false, .bool false] 27)).setRow X4.heap.size (cU a0 v0) = X5 at hb5 HX5 HU5 ⊢
  clear hnew c14
  have c14 := HU5.out.cell 14
  rw [(cU_at a0 v0 l0).2.2.2.2.1] at c14
  have d14 := HX5.out.cell 14
  rw [(cU_at a0 v0 l0).2.2.2.2.1] at d14
  have f14 := HX5.out.free 14
  obtain ⟨y, hy⟩ : ∃ y, wrap64 (a0.port + 1) = y := ⟨_, rfl⟩
  rw [hy] at Q14
  have hb6 := below_set hb5 (Nat.le_refl _) 14 (.int .i64 y)
  have HX6 := Lib.hid (HX5.out.prt l0 y)
  have HB6 := Lib.hid (Ascii.below2 HB4.out hb6)
  have HU6 := Lib.hid (HU4.out.later hb6)
  have HV6 := Lib.hid (HV4.out.later hb6)
  have HW6 := Lib.hid (HW4.out.later hb6)
  have HM6 := Lib.hid (HM4.out.later hb6)
  have HS6 := Lib.hid (HS4.out.later hb6)
  have HT6 := Lib.hid (HT4.out.later hb6)
  have HR6 := Lib.hid (HR4.out.later hb6)
  go_upto_region 9 with fail
  rw [hy]
  generalize X5.setCell ⟨X4.heap.size, 14, none⟩ (.int .i64 y) = X6 at HB6 HU6 HV6 HW6 HM6 HS6 HT6 HR6 HX6 ⊢
  generalize X4.heap.size = g3 at HX6 ⊢
  clear hb6 HB4 HU4 HV4 HW4 HM4 HS4 HT4 HR4 hb5 HX5 HU5 c14 d14 f14 hy X5
  have hnew := new_url X6
  have hb7 := below_url X6 a0 v0
  have HX7 := Lib.hid (hnew.row a0 v0)
  have HU7 := Lib.hid (HU6.out.later hb7)
  go_upto_region 10 with (first | ((with_reducible refine wp_load27 (o := ⟨some 42, .load 27 (.tmp 3), _, _, _, _⟩) ?_ (.tmp 3) ?_ w.heap.size ?_ a0 v0 l0 HU6.out ?_); (· rfl); (· rfl); (· rfl); simp only [Act.put, List.setIfInBounds_toArray, List.set_cons_zero, List.set_cons_succ]) | ((with_reducible refine wp_store27 (o := ⟨none, .store 27 (.tmp 12) (.tmp 42), _, _, _, _⟩) ?_ (.tmp 12) (.tmp 42) ?_ X6.heap.size ?_ a0 v0 ?_ l0 hone none1 (.slice none 0 0) rfl hnew ?_); (· rfl); (· rfl); (· rfl); (· rfl); simp only [Act.put, List.setIfInBounds_toArray, List.set_cons_zero, List.set_cons_succ]))
  generalize (X6.alloc (.cells #[.string ⟨#[]⟩, .string ⟨#[]⟩, .string ⟨#[]⟩, .int .i64 0, .string ⟨#[]⟩, .int .i64 0, .int .i64 0, .int .i64 0, .int .i64 0, .int .i64 0, .int .i64 0, .int .i64 0, .int .i64 0, .int .i64 0, .int .i64 0, .slice none 0 0, .string ⟨#[]⟩, .string ⟨#[]⟩, .string ⟨#[]⟩, .bool false, .bool false] 27)).setRow X6.heap.size (cU a0 v0) = X7 at hb7 HX7 HU7 ⊢
  clear hnew
  have c19 := HU7.out.cell 19
  rw [(cU_at a0 v0 l0).2.2.2.2.2.2.2.2.2.1] at c19
  have d19 := HX7.out.cell 19
  rw [(cU_at a0 v0 l0).2.2.2.2.2.2.2.2.2.1] at d19
  have f19 := HX7.out.free 19
  have hb8 := below_set hb7 (Nat.le_refl _) 19 (.bool !a0.hq)
  have HY8 := Lib.hid (HX7.out.hq l0 (!a0.hq))
  have HX8 := Lib.hid (HX6.out.later hb8)
  have HB8 := Lib.hid (Ascii.below2 HB6.out hb8)
  have HU8 := Lib.hid (HU6.out.later hb8)
  have HV8 := Lib.hid (HV6.out.later hb8)
  have HW8 := Lib.hid (HW6.out.later hb8)
  have HM8 := Lib.hid (HM6.out.later hb8)
  have HS8 := Lib.hid (HS6.out.later hb8)
  have HT8 := Lib.hid (HT6.out.later hb8)
  have HR8 := Lib.hid (HR6.out.later hb8)
  go_upto_region 11 with fail
  generalize X7.setCell ⟨X6.heap.size, 19, none⟩ (.bool !a0.hq) = X8 at HB8 HU8 HV8 HW8 HM8 HS8 HT8 HR8 HX8 HY8 ⊢
  generalize X6.heap.size = g4 at HY8 ⊢
  clear hb8 HB6 HU6 HV6 HW6 HM6 HS6 HT6 HR6 hb7 HX7 HX6 HU7 c19 d19 f19 X7
  have hnew := new_url X8
  have hb9 := below_url X8 a0 v0
  have HX9 := Lib.hid (hnew.row a0 v0)
  have HU9 := Lib.hid (HU8.out.later hb9)
  have HS9 := Lib.hid (HS8.out.later hb9)
  go_upto_region 12 with (first | ((with_reducible refine wp_load27 (o := ⟨some 47, .load 27 (.tmp 3), _, _, _, _⟩) ?_ (.tmp 3) ?_ w.heap.size ?_ a0 v0 l0 HU8.out ?_); (· rfl); (· rfl); (· rfl); simp only [Act.put, List.setIfInBounds_toArray, List.set_cons_zero, List.set_cons_succ]) | ((with_reducible refine wp_store27 (o := ⟨none, .store 27 (.tmp 13) (.tmp 47), _, _, _, _⟩) ?_ (.tmp 13) (.tmp 47) ?_ X8.heap.size ?_ a0 v0 ?_ l0 hone none1 (.slice none 0 0) rfl hnew ?_); (· rfl); (· rfl); (· rfl); (· rfl); simp only [Act.put, List.setIfInBounds_toArray, List.set_cons_zero, List.set_cons_succ]))
  generalize (X8.alloc (.cells #[.string ⟨#[]⟩, .string ⟨#[]⟩, .string ⟨#[]⟩, .int .i64 0, .string ⟨#[]⟩, .int .i64 0, .int .i64 0, .int .i64 0, .int .i64 0, .int .i64 0, .int .i64 0, .int .i64 0, .int .i64 0, .int .i64 0, .int .i64 0, .slice none 0 0, .string ⟨#[]⟩, .string ⟨#[]⟩, .string ⟨#[]⟩, .bool false, .bool false] 27)).setRow X8.heap.size (cU a0 v0) = X9 at hb9 HX9 HU9 HS9 ⊢
  clear hnew
  obtain ⟨i0, hi, hz0, hz1, hz2⟩ := info_parts Path.infoText
  have c15 := HU9.out.cell 15
  rw [(cU_at a0 v0 l0).2.2.2.2.2.1] at c15
  have hpl : a0.path.length ≤ 100000 := Nat.le_trans F0.out.pn (by decide)
  have hs9 := hb9.size
  have hg9 : X8.heap.size < X9.heap.size := HX9.out.lt
  go_upto_region 13 with (first
    | (at_builtin; refine wp_app_strs rfl (.tmp 49) rfl v0 a0.path rfl HS9.out hpl X9.heap.size (Nat.le_refl _) ?_; intro r1 X10 hr1 hg1; have hb10 : Below X8.heap.size X8 X10 := hb9.trans (none_below (Nat.le_trans hs9 (Nat.le_refl _)) hg1); have hs10 := hg1.size; have hs10a : (X10.alloc (.cells #[.string ⟨#[]⟩] 9)).heap.size = X10.heap.size + 1 := Array.size_push _)
    | (at_builtin; refine wpList_append_own _ rfl (.tmp 50) (.tmp 51) 25 rfl X9.heap.size 9 i0 (.string ⟨#[]⟩) 1 16 Tryz.underlying25 hi hz0 hz1 hz2 rfl (by decide) _ _ _ rfl (hr1.alloc (.cells #[.string ⟨#[]⟩] 9)) ⟨X10.heap.size, 0, none⟩ 1 1 [.string ⟨#[]⟩] rfl rfl (cell_one_new _ _ _) (by simp [Value.oneCell']) (by unfold maxLen; omega) (by omega) (by omega) ?_; intro r2 X12 hr2 hg2 hnil2; obtain ⟨ra, rc, er, _⟩ := Path.owns_shape hr2; subst er; have hb11 := hb10.alloc (by omega) (.cells #[.string ⟨#[]⟩] 9); have hx12 : UrlAt X12 X8.heap.size a0 v0 := (((HX9.out.later (none_below (Nat.le_refl _) hg1)).past (.cells #[.string ⟨#[]⟩] 9)).below (row_below (B := X9.heap.size) (hr1.alloc (.cells #[.string ⟨#[]⟩] 9)) (by omega) (Nat.le_refl _) hg2) hg9); have d15 := hx12.cell 15; rw [(cU_at a0 v0 l0).2.2.2.2.2.1] at d15; have f15 := hx12.free 15))
  have hr3 : X12.ownsRow X9.heap.size 9 1 (.slice ra (a0.path.length + 1) rc) (a0.path ++ [[]]).length ((a0.path ++ [[]]).map Path.tx) := by
    rw [List.map_append, List.length_append]
    exact hr2
  have hb12 : Below X8.heap.size X8 X12 := hb11.trans (row_below (hr1.alloc (.cells #[.string ⟨#[]⟩] 9)) (by omega) hs9 hg2)
  have hb13 := below_set hb12 (Nat.le_refl _) 15 (.slice ra (a0.path.length + 1) rc)
  have HZ13 := Lib.hid (hx12.pth l0 (a0.path ++ [[]]) (.slice ra (a0.path.length + 1) rc))
  have HQ13 := Lib.hid (strs_other (V := X12.setCell ⟨X8.heap.size, 15, none⟩ (.slice ra (a0.path.length + 1) rc)) X8.heap.size (Path.owns_strs hr3) ((Path.owns_new hr3).mono hg9) (fun k hk => by simp [World.setCell, Array.getElem?_modify, Ne.symm hk]))
  have HX13 := Lib.hid (HX8.out.later hb13)
  have HY13 := Lib.hid (HY8.out.later hb13)
  have HB13 := Lib.hid (Ascii.below2 HB8.out hb13)
  have HU13 := Lib.hid (HU8.out.later hb13)
  have HV13 := Lib.hid (HV8.out.later hb13)
  have HW13 := Lib.hid (HW8.out.later hb13)
  have HM13 := Lib.hid (HM8.out.later hb13)
  have HS13 := Lib.hid (HS8.out.later hb13)
  have HT13 := Lib.hid (HT8.out.later hb13)
  have HR13 := Lib.hid (HR8.out.later hb13)
  generalize X12.setCell ⟨X8.heap.size, 15, none⟩ (.slice ra (a0.path.length + 1) rc) = X13 at HB13 HU13 HV13 HW13 HM13 HS13 HT13 HR13 HX13 HY13 HZ13 HQ13 ⊢
  generalize X8.heap.size = g5 at HZ13 ⊢
  clear HB8 HU8 HV8 HW8 HM8 HS8 HT8 HR8 hb13 hb12 hr3 hr2 hg2 hnil2 hb11 hx12 d15 f15 hs10a hs10 hb10 hg1 hr1 hg9 hs9 c15 hb9 HX8 HY8 HX9 HU9 HS9 hi hz0 hz1 hz2 i0 hone
  obtain ⟨s, hs⟩ : ∃ s, sameU a0 a1 = s := ⟨_, rfl⟩
  go_wp2_with (first | ((with_reducible refine wp_load27 (o := ⟨some 54, .load 27 (.tmp 3), _, _, _, _⟩) ?_ (.tmp 3) ?_ w.heap.size ?_ a0 v0 l0 HU13.out ?_); (· rfl); (· rfl); (· rfl); simp only [Act.put, List.setIfInBounds_toArray, List.set_cons_zero, List.set_cons_succ]) | ((with_reducible refine wp_load27 (o := ⟨some 55, .load 27 (.tmp 4), _, _, _, _⟩) ?_ (.tmp 4) ?_ (w.heap.size + 1) ?_ a1 v1 l1 HV13.out ?_); (· rfl); (· rfl); (· rfl); simp only [Act.put, List.setIfInBounds_toArray, List.set_cons_zero, List.set_cons_succ]))
  refine (same_any a0 a1 v0 v1 l0 l1 s hs _ HS13.out HT13.out).mono ?_
  rintro e X14 ⟨rfl, hB14⟩
  have HX14 := Lib.hid (HX13.out.later hB14)
  have HY14 := Lib.hid (HY13.out.later hB14)
  have HZ14 := Lib.hid (HZ13.out.later hB14)
  have HQ14 := Lib.hid (HQ13.out.later hB14)
  have HB14 := Lib.hid (Ascii.below2 HB13.out hB14)
  have HU14 := Lib.hid (HU13.out.later hB14)
  have HV14 := Lib.hid (HV13.out.later hB14)
  have HW14 := Lib.hid (HW13.out.later hB14)
  have HM14 := Lib.hid (HM13.out.later hB14)
  have HS14 := Lib.hid (HS13.out.later hB14)
  have HT14 := Lib.hid (HT13.out.later hB14)
  have HR14 := Lib.hid (HR13.out.later hB14)
  clear HB13 HU13 HV13 HW13 HM13 HS13 HT13 HR13 HX13 HY13 HZ13 HQ13 hB14
  have L0 := Lib.hid (q_url HU14.out l0)
  have L1 := Lib.hid (q_url HV14.out l1)
  have L2 := Lib.hid (q_url HW14.out l2)
  have LX := Lib.hid (q_url HX14.out l0)
  have LY := Lib.hid (q_url HY14.out l0)
  have LZ := Lib.hid (q_url HZ14.out l0)
  have CA := Lib.hid (fun x hx => same_any a0 a0 v0 v0 l0 l0 true ((same_iff _ _).2 rfl) x hx hx)
  have CB := Lib.hid (fun x hx hy => same_any a1 a0 v1 v0 l1 l0 s ((same_symm a0 a1).trans hs) x hx hy)
  have CX := Lib.hid (fun x hx => same_any a0 { a0 with port := y } v0 v0 l0 l0 false (same_port a0 y Q14.out) x hx hx)
  have CY := Lib.hid (fun x hx => same_any a0 { a0 with hq := !a0.hq } v0 v0 l0 l0 false (same_hq a0) x hx hx)
  have CZ := Lib.hid (fun x hx hy => same_any a0 { a0 with path := a0.path ++ [[]] } v0 (.slice ra (a0.path.length + 1) rc) l0 l0 false (same_path a0) x hx hy)
  obtain ⟨q, hq⟩ : ∃ q, sameU a1 a2 = q := ⟨_, rfl⟩
  obtain ⟨b, hb⟩ : ∃ b, mayU a0 = b := ⟨_, rfl⟩
  have CQ := Lib.hid (fun x hx hy => same_any a1 a2 v1 v2 l1 l2 q hq x hx hy)
  have CM := Lib.hid (fun x hx hy => may_any a0 v0 F0.out b hb m x hx hy)
  clear Q14
  go_wp2_with fail
  cases s
  · clear hs CQ CM hq hb
    refine Ascii.wp_region_quiet_below (by kernel_rfl) (by kernel_rfl) ?_
    ((go_big_quiet_want; (with_reducible refine Host.quiet_load (o := ⟨some 57, .load 27 (.tmp 3), _, _, _, _⟩) 27 (.tmp 3) ?_ _ ?_ _ L0.out ?_); (· rfl); (· rfl)); go_big_quiet_on; simp only [Act.put, List.setIfInBounds_toArray, List.set_cons_succ, List.set_cons_zero])
    ((go_big_quiet_want; (with_reducible refine Host.quiet_load (o := ⟨some 58, .load 27 (.tmp 3), _, _, _, _⟩) 27 (.tmp 3) ?_ _ ?_ _ L0.out ?_); (· rfl); (· rfl)); go_big_quiet_on; simp only [Act.put, List.setIfInBounds_toArray, List.set_cons_succ, List.set_cons_zero])
    go_big_quiet_step ((intro hu; go_at_call 22; exact (CA.out _ (HS14.out.later hu)).mono fun e u' h => ⟨h.1, hu.trans (h.2.mono hu.size)⟩))
    iterate 2 (go_big_quiet_step ((intro _; rfl)))
    ((go_big_quiet_want; (with_reducible refine Host.quiet_load (o := ⟨some 62, .load 27 (.tmp 4), _, _, _, _⟩) 27 (.tmp 4) ?_ _ ?_ _ L1.out ?_); (· rfl); (· rfl)); go_big_quiet_on; simp only [Act.put, List.setIfInBounds_toArray, List.set_cons_succ, List.set_cons_zero])
    ((go_big_quiet_want; (with_reducible refine Host.quiet_load (o := ⟨some 63, .load 27 (.tmp 3), _, _, _, _⟩) 27 (.tmp 3) ?_ _ ?_ _ L0.out ?_); (· rfl); (· rfl)); go_big_quiet_on; simp only [Act.put, List.setIfInBounds_toArray, List.set_cons_succ, List.set_cons_zero])
    go_big_quiet_step ((intro hu; go_at_call 22; exact (CB.out _ (HT14.out.later hu) (HS14.out.later hu)).mono fun e u' h => ⟨h.1, hu.trans (h.2.mono hu.size)⟩))
    iterate 23 (go_big_quiet_step ((intro _; rfl)))
    ((go_big_quiet_want; (with_reducible refine Host.quiet_load (o := ⟨some 88, .load 27 (.tmp 3), _, _, _, _⟩) 27 (.tmp 3) ?_ _ ?_ _ L0.out ?_); (· rfl); (· rfl)); go_big_quiet_on; simp only [Act.put, List.setIfInBounds_toArray, List.set_cons_succ, List.set_cons_zero])
    ((go_big_quiet_want; (with_reducible refine Host.quiet_load (o := ⟨some 89, .load 27 (.tmp 11), _, _, _, _⟩) 27 (.tmp 11) ?_ _ ?_ _ LX.out ?_); (· rfl); (· rfl)); go_big_quiet_on; simp only [Act.put, List.setIfInBounds_toArray, List.set_cons_succ, List.set_cons_zero])
    go_big_quiet_step ((intro hu; go_at_call 22; exact (CX.out _ (HS14.out.later hu)).mono fun e u' h => ⟨h.1, hu.trans (h.2.mono hu.size)⟩))
    iterate 3 (go_big_quiet_step ((intro _; rfl)))
    ((go_big_quiet_want; (with_reducible refine Host.quiet_load (o := ⟨some 94, .load 27 (.tmp 3), _, _, _, _⟩) 27 (.tmp 3) ?_ _ ?_ _ L0.out ?_); (· rfl); (· rfl)); go_big_quiet_on; simp only [Act.put, List.setIfInBounds_toArray, List.set_cons_succ, List.set_cons_zero])
    ((go_big_quiet_want; (with_reducible refine Host.quiet_load (o := ⟨some 95, .load 27 (.tmp 12), _, _, _, _⟩) 27 (.tmp 12) ?_ _ ?_ _ LY.out ?_); (· rfl); (· rfl)); go_big_quiet_on; simp only [Act.put, List.setIfInBounds_toArray, List.set_cons_succ, List.set_cons_zero])
    go_big_quiet_step ((intro hu; go_at_call 22; exact (CY.out _ (HS14.out.later hu)).mono fun e u' h => ⟨h.1, hu.trans (h.2.mono hu.size)⟩))
    iterate 3 (go_big_quiet_step ((intro _; rfl)))
    ((go_big_quiet_want; (with_reducible refine Host.quiet_load (o := ⟨some 100, .load 27 (.tmp 3), _, _, _, _⟩) 27 (.tmp 3) ?_ _ ?_ _ L0.out ?_); (· rfl); (· rfl)); go_big_quiet_on; simp only [Act.put, List.setIfInBounds_toArray, List.set_cons_succ, List.set_cons_zero])
    ((go_big_quiet_want; (with_reducible refine Host.quiet_load (o := ⟨some 101, .load 27 (.tmp 13), _, _, _, _⟩) 27 (.tmp 13) ?_ _ ?_ _ LZ.out ?_); (· rfl); (· rfl)); go_big_quiet_on; simp only [Act.put, List.setIfInBounds_toArray, List.set_cons_succ, List.set_cons_zero])
    go_big_quiet_step ((intro hu; go_at_call 22; exact (CZ.out _ (HS14.out.later hu) (HQ14.out.later hu)).mono fun e u' h => ⟨h.1, hu.trans (h.2.mono hu.size)⟩))
    repeat (go_big_quiet_step ((intro _; rfl)))
    refine wpQuiet_nil ?_
    intro z hz
    go_wp2
    go_ret
    exact ⟨rfl, Ascii.below2 HB14.out hz⟩
  · have e01 : a0 = a1 := (same_iff a0 a1).1 hs
    have CR := Lib.hid (fun x hx hy => same_any a0 a2 v0 v2 l0 l2 q (by rw [e01]; exact hq) x hx hy)
    have CN := Lib.hid (fun x hx hy => may_any a1 v1 F1.out b (by rw [← e01]; exact hb) m x hx hy)
    clear hs hq hb e01
    cases q <;> cases b
    all_goals
     refine Ascii.wp_region_quiet_below (by kernel_rfl) (by kernel_rfl) ?_
     ((go_big_quiet_want; (with_reducible refine Host.quiet_load (o := ⟨some 57, .load 27 (.tmp 3), _, _, _, _⟩) 27 (.tmp 3) ?_ _ ?_ _ L0.out ?_); (· rfl); (· rfl)); go_big_quiet_on; simp only [Act.put, List.setIfInBounds_toArray, List.set_cons_succ, List.set_cons_zero])
     ((go_big_quiet_want; (with_reducible refine Host.quiet_load (o := ⟨some 58, .load 27 (.tmp 3), _, _, _, _⟩) 27 (.tmp 3) ?_ _ ?_ _ L0.out ?_); (· rfl); (· rfl)); go_big_quiet_on; simp only [Act.put, List.setIfInBounds_toArray, List.set_cons_succ, List.set_cons_zero])
     go_big_quiet_step ((intro hu; go_at_call 22; exact (CA.out _ (HS14.out.later hu)).mono fun e u' h => ⟨h.1, hu.trans (h.2.mono hu.size)⟩))
     iterate 2 (go_big_quiet_step ((intro _; rfl)))
     ((go_big_quiet_want; (with_reducible refine Host.quiet_load (o := ⟨some 62, .load 27 (.tmp 4), _, _, _, _⟩) 27 (.tmp 4) ?_ _ ?_ _ L1.out ?_); (· rfl); (· rfl)); go_big_quiet_on; simp only [Act.put, List.setIfInBounds_toArray, List.set_cons_succ, List.set_cons_zero])
     ((go_big_quiet_want; (with_reducible refine Host.quiet_load (o := ⟨some 63, .load 27 (.tmp 3), _, _, _, _⟩) 27 (.tmp 3) ?_ _ ?_ _ L0.out ?_); (· rfl); (· rfl)); go_big_quiet_on; simp only [Act.put, List.setIfInBounds_toArray, List.set_cons_succ, List.set_cons_zero])
     go_big_quiet_step ((intro hu; go_at_call 22; exact (CB.out _ (HT14.out.later hu) (HS14.out.later hu)).mono fun e u' h => ⟨h.1, hu.trans (h.2.mono hu.size)⟩))
     iterate 6 (go_big_quiet_step ((intro _; rfl)))
     ((go_big_quiet_want; (with_reducible refine Host.quiet_load (o := ⟨some 71, .load 27 (.tmp 4), _, _, _, _⟩) 27 (.tmp 4) ?_ _ ?_ _ L1.out ?_); (· rfl); (· rfl)); go_big_quiet_on; simp only [Act.put, List.setIfInBounds_toArray, List.set_cons_succ, List.set_cons_zero])
     ((go_big_quiet_want; (with_reducible refine Host.quiet_load (o := ⟨some 72, .load 27 (.tmp 5), _, _, _, _⟩) 27 (.tmp 5) ?_ _ ?_ _ L2.out ?_); (· rfl); (· rfl)); go_big_quiet_on; simp only [Act.put, List.setIfInBounds_toArray, List.set_cons_succ, List.set_cons_zero])
     go_big_quiet_step ((intro hu; go_at_call 22; exact (CQ.out _ (HT14.out.later hu) (HR14.out.later hu)).mono fun e u' h => ⟨h.1, hu.trans (h.2.mono hu.size)⟩))
     ((go_big_quiet_want; (with_reducible refine Host.quiet_load (o := ⟨some 74, .load 27 (.tmp 3), _, _, _, _⟩) 27 (.tmp 3) ?_ _ ?_ _ L0.out ?_); (· rfl); (· rfl)); go_big_quiet_on; simp only [Act.put, List.setIfInBounds_toArray, List.set_cons_succ, List.set_cons_zero])
     ((go_big_quiet_want; (with_reducible refine Host.quiet_load (o := ⟨some 75, .load 27 (.tmp 5), _, _, _, _⟩) 27 (.tmp 5) ?_ _ ?_ _ L2.out ?_); (· rfl); (· rfl)); go_big_quiet_on; simp only [Act.put, List.setIfInBounds_toArray, List.set_cons_succ, List.set_cons_zero])
     go_big_quiet_step ((intro hu; go_at_call 22; exact (CR.out _ (HS14.out.later hu) (HR14.out.later hu)).mono fun e u' h => ⟨h.1, hu.trans (h.2.mono hu.size)⟩))
     iterate 2 (go_big_quiet_step ((intro _; rfl)))
     ((go_big_quiet_want; (with_reducible refine Host.quiet_load (o := ⟨some 79, .load 27 (.tmp 3), _, _, _, _⟩) 27 (.tmp 3) ?_ _ ?_ _ L0.out ?_); (· rfl); (· rfl)); go_big_quiet_on; simp only [Act.put, List.setIfInBounds_toArray, List.set_cons_succ, List.set_cons_zero])
     go_big_quiet_step ((intro hu; go_at_call 21; exact (CM.out _ (HM14.out.later hu) (HS14.out.later hu)).mono fun e u' h => ⟨h.1, hu.trans (h.2.mono hu.size)⟩))
     ((go_big_quiet_want; (with_reducible refine Host.quiet_load (o := ⟨some 81, .load 27 (.tmp 4), _, _, _, _⟩) 27 (.tmp 4) ?_ _ ?_ _ L1.out ?_); (· rfl); (· rfl)); go_big_quiet_on; simp only [Act.put, List.setIfInBounds_toArray, List.set_cons_succ, List.set_cons_zero])
     go_big_quiet_step ((intro hu; go_at_call 21; exact (CN.out _ (HM14.out.later hu) (HT14.out.later hu)).mono fun e u' h => ⟨h.1, hu.trans (h.2.mono hu.size)⟩))
     iterate 5 (go_big_quiet_step ((intro _; rfl)))
     ((go_big_quiet_want; (with_reducible refine Host.quiet_load (o := ⟨some 88, .load 27 (.tmp 3), _, _, _, _⟩) 27 (.tmp 3) ?_ _ ?_ _ L0.out ?_); (· rfl); (· rfl)); go_big_quiet_on; simp only [Act.put, List.setIfInBounds_toArray, List.set_cons_succ, List.set_cons_zero])
     ((go_big_quiet_want; (with_reducible refine Host.quiet_load (o := ⟨some 89, .load 27 (.tmp 11), _, _, _, _⟩) 27 (.tmp 11) ?_ _ ?_ _ LX.out ?_); (· rfl); (· rfl)); go_big_quiet_on; simp only [Act.put, List.setIfInBounds_toArray, List.set_cons_succ, List.set_cons_zero])
     go_big_quiet_step ((intro hu; go_at_call 22; exact (CX.out _ (HS14.out.later hu)).mono fun e u' h => ⟨h.1, hu.trans (h.2.mono hu.size)⟩))
     iterate 3 (go_big_quiet_step ((intro _; rfl)))
     ((go_big_quiet_want; (with_reducible refine Host.quiet_load (o := ⟨some 94, .load 27 (.tmp 3), _, _, _, _⟩) 27 (.tmp 3) ?_ _ ?_ _ L0.out ?_); (· rfl); (· rfl)); go_big_quiet_on; simp only [Act.put, List.setIfInBounds_toArray, List.set_cons_succ, List.set_cons_zero])
     ((go_big_quiet_want; (with_reducible refine Host.quiet_load (o := ⟨some 95, .load 27 (.tmp 12), _, _, _, _⟩) 27 (.tmp 12) ?_ _ ?_ _ LY.out ?_); (· rfl); (· rfl)); go_big_quiet_on; simp only [Act.put, List.setIfInBounds_toArray, List.set_cons_succ, List.set_cons_zero])
     go_big_quiet_step ((intro hu; go_at_call 22; exact (CY.out _ (HS14.out.later hu)).mono fun e u' h => ⟨h.1, hu.trans (h.2.mono hu.size)⟩))
     iterate 3 (go_big_quiet_step ((intro _; rfl)))
     ((go_big_quiet_want; (with_reducible refine Host.quiet_load (o := ⟨some 100, .load 27 (.tmp 3), _, _, _, _⟩) 27 (.tmp 3) ?_ _ ?_ _ L0.out ?_); (· rfl); (· rfl)); go_big_quiet_on; simp only [Act.put, List.setIfInBounds_toArray, List.set_cons_succ, List.set_cons_zero])
     ((go_big_quiet_want; (with_reducible refine Host.quiet_load (o := ⟨some 101, .load 27 (.tmp 13), _, _, _, _⟩) 27 (.tmp 13) ?_ _ ?_ _ LZ.out ?_); (· rfl); (· rfl)); go_big_quiet_on; simp only [Act.put, List.setIfInBounds_toArray, List.set_cons_succ, List.set_cons_zero])
     go_big_quiet_step ((intro hu; go_at_call 22; exact (CZ.out _ (HS14.out.later hu) (HQ14.out.later hu)).mono fun e u' h => ⟨h.1, hu.trans (h.2.mono hu.size)⟩))
     repeat (go_big_quiet_step ((intro _; rfl)))
     refine wpQuiet_nil ?_
     intro z hz
     go_wp2
     go_ret
     exact ⟨rfl, Ascii.below2 HB14.out hz⟩

/-! ### The row's step -/
theorem reads (os : Os) {H : Type} (enc : TypeId × Value → H) : (DataW.whole enc Tryz.prog ((Card.laidWorld os).forCall (fun _ _ => 0) ⟨#[], #[.agg #[.string ByteArray.empty, .string ByteArray.empty, .string ByteArray.empty, .int .i64 0, .string ByteArray.empty, .int .i64 0, .int .i64 0, .int .i64 0, .int .i64 0, .int .i64 0, .int .i64 0, .int .i64 0, .int .i64 0, .int .i64 0, .int .i64 0, .slice none 0 0, .string ByteArray.empty, .string ByteArray.empty, .string ByteArray.empty, .bool false, .bool false], .agg #[.string ByteArray.empty, .string ByteArray.empty, .string ByteArray.empty, .int .i64 0, .string ByteArray.empty, .int .i64 0, .int .i64 0, .int .i64 0, .int .i64 0, .int .i64 0, .int .i64 0, .int .i64 0, .int .i64 0, .int .i64 0, .int .i64 0, .slice none 0 0, .string ByteArray.empty, .string ByteArray.empty, .string ByteArray.empty, .bool false, .bool false], .agg #[.string ByteArray.empty, .string ByteArray.empty, .string ByteArray.empty, .int .i64 0, .string ByteArray.empty, .int .i64 0, .int .i64 0, .int .i64 0, .int .i64 0, .int .i64 0, .int .i64 0, .int .i64 0, .int .i64 0, .int .i64 0, .int .i64 0, .slice none 0 0, .string ByteArray.empty, .string ByteArray.empty, .string ByteArray.empty, .bool false, .bool false]], []⟩).memory Tryz.f10.params.toList Rows.urlSameSpec.vars false (#[.agg #[.string ByteArray.empty, .string ByteArray.empty, .string ByteArray.empty, .int .i64 0, .string ByteArray.empty, .int .i64 0, .int .i64 0, .int .i64 0, .int .i64 0, .int .i64 0, .int .i64 0, .int .i64 0, .int .i64 0, .int .i64 0, .int .i64 0, .slice none 0 0, .string ByteArray.empty, .string ByteArray.empty, .string ByteArray.empty, .bool false, .bool false], .agg #[.string ByteArray.empty, .string ByteArray.empty, .string ByteArray.empty, .int .i64 0, .string ByteArray.empty, .int .i64 0, .int .i64 0, .int .i64 0, .int .i64 0, .int .i64 0, .int .i64 0, .int .i64 0, .int .i64 0, .int .i64 0, .int .i64 0, .slice none 0 0, .string ByteArray.empty, .string ByteArray.empty, .string ByteArray.empty, .bool false, .bool false], .agg #[.string ByteArray.empty, .string ByteArray.empty, .string ByteArray.empty, .int .i64 0, .string ByteArray.empty, .int .i64 0, .int .i64 0, .int .i64 0, .int .i64 0, .int .i64 0, .int .i64 0, .int .i64 0, .int .i64 0, .int .i64 0, .int .i64 0, .slice none 0 0, .string ByteArray.empty, .string ByteArray.empty, .string ByteArray.empty, .bool false, .bool false]] : Array Value).toList 8).map (fun x => (x.1, x.2.1)) = some ([.agg [.lit (.string []), .lit (.string []), .lit (.string []), .agg [.lit (.int .i64 0), .lit (.string []), .lit (.int .i64 0), .agg [.lit (.int .i64 0), .lit (.int .i64 0), .lit (.int .i64 0), .lit (.int .i64 0), .lit (.int .i64 0), .lit (.int .i64 0), .lit (.int .i64 0), .lit (.int .i64 0)]], .lit (.int .i64 0), .nil, .lit (.string []), .lit (.string []), .lit (.string []), .lit (.bool false), .lit (.bool false)], .agg [.lit (.string []), .lit (.string []), .lit (.string []), .agg [.lit (.int .i64 0), .lit (.string []), .lit (.int .i64 0), .agg [.lit (.int .i64 0), .lit (.int .i64 0), .lit (.int .i64 0), .lit (.int .i64 0), .lit (.int .i64 0), .lit (.int .i64 0), .lit (.int .i64 0), .lit (.int .i64 0)]], .lit (.int .i64 0), .nil, .lit (.string []), .lit (.string []), .lit (.string []), .lit (.bool false), .lit (.bool false)], .agg [.lit (.string []), .lit (.string []), .lit (.string []), .agg [.lit (.int .i64 0), .lit (.string []), .lit (.int .i64 0), .agg [.lit (.int .i64 0), .lit (.int .i64 0), .lit (.int .i64 0), .lit (.int .i64 0), .lit (.int .i64 0), .lit (.int .i64 0), .lit (.int .i64 0), .lit (.int .i64 0)]], .lit (.int .i64 0), .nil, .lit (.string []), .lit (.string []), .lit (.string []), .lit (.bool false), .lit (.bool false)]], []) := by kernel_rfl
set_option maxRecDepth 100000 in
theorem lifted (os : Os) (started : os.Started) (H : Type) (enc : TypeId × Value → H) (F : Stop.Interp) :
    ReturnsInHanded {} Tryz.checked os 10 .any ((OpenSpec.ofChange Rows.urlSameSpec).preRow enc Tryz.prog Tryz.f10 Rows.urlSameRow.domain false Rows.urlSameRow.laid) (((OpenSpec.ofChange Rows.urlSameSpec).at F).post enc Tryz.prog Tryz.f10 false true false false) := by
  obtain ⟨⟨x1, x2, x3⟩, hx, hx1⟩ := Option.map_eq_some_iff.1 (reads os enc)
  simp only [Prod.mk.injEq] at hx1
  obtain ⟨rfl, rfl⟩ := hx1
  refine returnsInHanded_of_row (C := Tryz.checked) (s := OpenSpec.ofChange Rows.urlSameSpec) own started (by kernel_rfl) Tryz.func10
    (witness_row_at (enc := enc) (C := Tryz.checked) false (Card.laidWorld os) #[.agg #[.string ByteArray.empty, .string ByteArray.empty, .string ByteArray.empty, .int .i64 0, .string ByteArray.empty, .int .i64 0, .int .i64 0, .int .i64 0, .int .i64 0, .int .i64 0, .int .i64 0, .int .i64 0, .int .i64 0, .int .i64 0, .int .i64 0, .slice none 0 0, .string ByteArray.empty, .string ByteArray.empty, .string ByteArray.empty, .bool false, .bool false], .agg #[.string ByteArray.empty, .string ByteArray.empty, .string ByteArray.empty, .int .i64 0, .string ByteArray.empty, .int .i64 0, .int .i64 0, .int .i64 0, .int .i64 0, .int .i64 0, .int .i64 0, .int .i64 0, .int .i64 0, .int .i64 0, .int .i64 0, .slice none 0 0, .string ByteArray.empty, .string ByteArray.empty, .string ByteArray.empty, .bool false, .bool false], .agg #[.string ByteArray.empty, .string ByteArray.empty, .string ByteArray.empty, .int .i64 0, .string ByteArray.empty, .int .i64 0, .int .i64 0, .int .i64 0, .int .i64 0, .int .i64 0, .int .i64 0, .int .i64 0, .int .i64 0, .int .i64 0, .int .i64 0, .slice none 0 0, .string ByteArray.empty, .string ByteArray.empty, .string ByteArray.empty, .bool false, .bool false]] rfl (by kernel_rfl) (by kernel_rfl) (by kernel_rfl)
      (OpenSpec.preRow_of_cond 8 hx (by kernel_rfl) (fun k hk => by cases hk) (by kernel_rfl) (Card.laid_met os _))) ?_
  intro W base args ds gs before hval0 hW _ _ _ hL hsh _
  obtain ⟨m, hmax⟩ := Card.maxLen_int hsh
  have hm : Six.At m W := ⟨hmax, Six.tab_of hL⟩
  have hval : ∀ (j : Nat) t v, Tryz.f10.params[j]? = some t → args[j]? = some v → Value.okWide Tryz.prog W .any base t v := hval0
  have hW' := hW
  obtain ⟨p, q, hA0, hV, rfl, hfz, hnd⟩ := hW
  have hA : DataW.TrodAll enc Tryz.prog W 0 (fun _ => true) true Tryz.f10.params.toList args.toList ds p := hA0
  rw [Tryz.params10] at hA hval
  obtain ⟨v0, vs0, d0, ds0, p0, q0, hargs0, rfl, rfl, t0, r0⟩ := trodAll_cons hA
  obtain ⟨v1, vs1, d1, ds1, p1, q1, hargs1, rfl, rfl, t1, r1⟩ := trodAll_cons r0
  obtain ⟨v2, vs2, d2, ds2, p2, q2, hargs2, rfl, rfl, t2, r2⟩ := trodAll_cons r1
  obtain ⟨rfl, rfl, rfl⟩ := trodAll_nil r2
  obtain rfl : args = #[v0, v1, v2] := by cases args; simp_all
  obtain ⟨rfl, rfl⟩ := trodVars_none hV
  have k0 := t0
  have lt0 : ∀ x ∈ p0, x.block < W.heap.size := by obtain ⟨m, hm⟩ := k0; exact DataW.trod_lt m _ _ _ hm
  obtain ⟨a0, pv0, l0, rfl, z0, w0⟩ := Url.open_url (hval 0 27 v0 rfl rfl) t0
  have k1 := t1
  have lt1 : ∀ x ∈ p1, x.block < W.heap.size := by obtain ⟨m, hm⟩ := k1; exact DataW.trod_lt m _ _ _ hm
  obtain ⟨a1, pv1, l1, rfl, z1, w1⟩ := Url.open_url (hval 1 27 v1 rfl rfl) t1
  have k2 := t2
  have lt2 : ∀ x ∈ p2, x.block < W.heap.size := by obtain ⟨m, hm⟩ := k2; exact DataW.trod_lt m _ _ _ hm
  obtain ⟨a2, pv2, l2, rfl, z2, w2⟩ := Url.open_url (hval 2 27 v2 rfl rfl) t2
  clear hA0 hval0
  simp only [List.append_nil] at hW'
  refine (walk a0 pv0 l0 a1 pv1 l1 a2 pv2 l2  m W hm z0 w0 z1 w1 z2 w2).mono fun e W' ⟨he, bel⟩ => ?_
  subst he
  exact ⟨_, rfl, _, _, _, [], _, [], hW', trodAll_mk1 (shut_bool Tryz.underlying4 _), (trodAll_cons_mk (Below.trod laidOut (by kernel_rfl) (of_decide_eq_true (by kernel_rfl)) k0 bel lt0) (trodAll_cons_mk (Below.trod laidOut (by kernel_rfl) (of_decide_eq_true (by kernel_rfl)) k1 bel lt1) (trodAll_cons_mk (Below.trod laidOut (by kernel_rfl) (of_decide_eq_true (by kernel_rfl)) k2 bel lt2) trodAll_mk0))), rfl, bel.frame _, fun h => by cases h⟩

theorem said : Rows.urlSameRow.holds Tryz.pinned (OpenSpec.ofChange Rows.urlSameSpec) :=
  OpenClaim.holds_of_cond 10 Tryz.f10 rfl rfl rfl rfl rfl rfl rfl ⟨rfl, rfl, rfl, rfl, rfl⟩ rfl rfl rfl rfl rfl (by kernel_rfl) Tryz.func10 (by kernel_rfl)
    (of_decide_eq_true (by kernel_rfl)) (by unfold Func.isWrapper; first | (rw [if_pos (by decide +kernel)]; kernel_rfl) | (rw [if_neg (by decide +kernel)]; exact ⟨rfl, rfl⟩))
    (fun os started H enc _ F => by rw [OpenClaim.pre_eq_preRow]; exact lifted os started H enc F)

/-- No parameter wants a stand-in; the program's own looks are on. -/
theorem plain (f : FuncId) (fn : Func) (hf : Tryz.pinned.checked.prog.funcNamed Rows.urlSameRow.func = some f) (hfn : Tryz.pinned.checked.prog.funcs[f]? = some fn) :
    true = Tryz.pinned.checked.prog.looks [] ∧ ∀ (j : Nat) t, fn.params[j]? = some t → Tryz.pinned.checked.prog.wantsStandIn t = false := by
  obtain rfl : f = 10 := Option.some.inj ((show Tryz.prog.funcNamed Rows.urlSameRow.func = some 10 by kernel_rfl).symm.trans hf) |>.symm
  obtain rfl : fn = Tryz.f10 := (Option.some.inj (Tryz.func10.symm.trans hfn)).symm
  refine ⟨by kernel_rfl, fun j t ht => ?_⟩
  rw [Tryz.params10] at ht
  obtain rfl : t = 27 := by simpa using Array.mem_of_getElem? ht
  · exact (show Tryz.prog.wantsStandIn 27 = false by kernel_rfl)

/-- The statement: the card. -/
theorem proved : Rows.UrlSameCardSaid :=
  Claim7.holds_tied_plain_at .later [] _ _ _ _ said (fun _ h => by cases h) (by kernel_rfl) (fun _ h => by cases h) urlSame_row_tie rfl ⟨rfl, rfl⟩ (by kernel_rfl) rfl plain (by kernel_rfl)
#print axioms proved
end Go.Proofs.YtfdhhjigpboieaaGreatDoor.urlSame
