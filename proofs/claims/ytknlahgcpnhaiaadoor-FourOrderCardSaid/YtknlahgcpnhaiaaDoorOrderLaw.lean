/-
  The law FourOrder holds for every input: for every number the call returns true and leaves what was there as it was. No condition of its own; the card: the two listed tables of unicode/utf8 lie as their texts lay them (tied).
-/
import Derived.Test.YtknlahgcpnhaiaaDoorCards
import Derived.Test.YtknlahgcpnhaiaaDoorTie
import Derived.WalkKit
import Derived.ProofKit
import Derived.OpenShut
import Derived.ShutString
import Derived.Test.YtknlahgcpnhaiaaDoorLaid
import Derived.Test.YtknlahgcpnhaiaaDoorFAwake
namespace Go.Proofs.YtknlahgcpnhaiaaDoor.fourOrder
open Go.ChangeShapes Go.WideShapes Go.ChangeAt Go.RowKit
open Go.ChangeMaps (open_string shut_string)
open Go.Shelf
open Go.Proofs.YtknlahgcpnhaiaaDoor.Four
set_option linter.unusedSimpArgs false
set_option linter.unusedVariables false      -- a walk need not use every 'w<i>' (that an integer argument fits its kind)

theorem own : ownKnob Tryd.prog.godebug = none := by kernel_rfl

/-- All of a text but its last part. -/
def ahead (n : Nat) : List UInt8 := Deci.showN (n / 16777216) ++ 46 :: (Deci.showN (n / 65536 % 256) ++ 46 :: (Deci.showN (n / 256 % 256) ++ [46]))
theorem show_ahead (n : Nat) : show4 n = ahead n ++ Deci.showN (n % 256) := by
  unfold show4 join4 ahead
  simp
theorem ahead_next (n : Nat) (h : n % 256 ≠ 255) : ahead (n + 1) = ahead n := by
  unfold ahead
  rw [show (n + 1) / 16777216 = n / 16777216 by omega, show (n + 1) / 65536 % 256 = n / 65536 % 256 by omega, show (n + 1) / 256 % 256 = n / 256 % 256 by omega]
theorem ahead_pos (n : Nat) : 0 < (ahead n).length := by unfold ahead; simp; omega

set_option maxRecDepth 100000 in
set_option maxHeartbeats 4000000 in
theorem walkOut (n : Int) (h : decide (n < 0) = true ∨ (decide (n < 0) = false ∧ decide (4294967295 ≤ n) = true)) (m : Int) (w : World) (hm : Hid (MaxAt m w)) :
    Calls Tryd.prog 7 #[.int .i64 n] w fun e w' => e = .returned (.bool true) ∧ Below w.heap.size w w' := by
  rcases h with h1 | ⟨h1, h2⟩
  all_goals
    go_enter Tryd.func7, Tryd.ntmps7
    go_wp2_with fail
    refine (awake_calls m _ hm.out).mono ?_
    rintro e u1 ⟨rfl, hB1⟩
    go_wp2_with fail
    go_ret
    exact ⟨rfl, hB1⟩

theorem showAt (z : Int) (n : Nat) (hz : z = (n : Int)) (hn : n ≤ 9223372036854775807) (x : ByteArray) (hx : (⟨(Deci.showN n).toArray⟩ : ByteArray) = x) (w : World) :
    Calls Tryd.prog 18 #[.int .i64 z] w fun e W' => e = .returned (.string x) ∧ Below w.heap.size w W' := by
  subst hz
  exact show_at n hn x hx w
theorem show4At (z : Int) (n : Nat) (hz : z = (n : Int)) (hn : n ≤ 4294967295) (x : ByteArray) (hx : (⟨(show4 n).toArray⟩ : ByteArray) = x) (w : World) :
    Calls Tryd.prog 13 #[.int .i64 z] w fun e W' => e = .returned (.string x) ∧ Below w.heap.size w W' := by
  subst hz; subst hx
  exact showIn n hn w

set_option maxRecDepth 100000 in
set_option maxHeartbeats 4000000 in
theorem walkIn (n : Nat) (hn : n ≤ 4294967294) (h1 : decide ((n : Int) < 0) = false) (h2 : decide (4294967295 ≤ (n : Int)) = false) (tx ty lx nx : ByteArray) (HX : Hid ((⟨(show4 n).toArray⟩ : ByteArray) = tx)) (HY : Hid ((⟨(show4 (n + 1)).toArray⟩ : ByteArray) = ty)) (HL : Hid ((⟨(Deci.showN (n % 256)).toArray⟩ : ByteArray) = lx)) (HNx : Hid ((⟨(Deci.showN (n % 256 + 1)).toArray⟩ : ByteArray) = nx))
    (b7 : 7 ≤ tx.size) (b15 : tx.size ≤ 15) (n3 : nx.size ≤ 3) (k : Nat) (k0 : 0 < k) (hk : k ≤ tx.size) (hw : wrap64 ((tx.size : Int) - (lx.size : Int)) = (k : Int)) (e1 : ((tx.extract k tx.size).toList == lx.toList) = true)
    (e2 : (((n : Int) % 256 == 255) = true) ∨ ((((n : Int) % 256 == 255) = false) ∧ (ty.toList == (tx.extract 0 k ++ nx).toList) = true))
    (m : Int) (w : World) (hm : Hid (MaxAt m w)) :
    Calls Tryd.prog 7 #[.int .i64 n] w fun e w' => e = .returned (.bool true) ∧ Below w.heap.size w w' := by
  have HN := Lib.hid hn
  go_enter Tryd.func7, Tryd.ntmps7
  go_wp2_with fail
  refine (awake_calls m _ hm.out).mono ?_
  rintro e u1 ⟨rfl, hB1⟩
  go_wp2_with fail
  refine (show4At _ n (by omega) (by have := HN.out; omega) tx HX.out _).mono ?_
  rintro e u2 ⟨rfl, hB2⟩
  go_wp2_with fail
  refine (show4At _ (n + 1) (by omega) (by have := HN.out; omega) ty HY.out _).mono ?_
  rintro e u3 ⟨rfl, hB3⟩
  go_wp2_with fail
  refine (showAt _ (n % 256) (by omega) (by omega) lx HL.out _).mono ?_
  rintro e u4 ⟨rfl, hB4⟩
  go_wp2_with fail
  refine (showAt _ (n % 256 + 1) (by omega) (by omega) nx HNx.out _).mono ?_
  rintro e u5 ⟨rfl, hB5⟩
  have hB := Lib.hid (Deci.below2 (Deci.below4 hB1 hB2 hB3 hB4) hB5)
  clear hB1 hB2 hB3 hB4 hB5
  rcases e2 with e2 | ⟨e2, e3⟩
  all_goals
    go_wp2
    go_ret
    exact ⟨rfl, hB.out⟩
theorem walk (a0 : Int) (w0 : (Lit.int .i64 a0).wf = true) (m : Int) (w : World) (hm : w.cell? ⟨0, 0, none⟩ = some (.int .i64 m)) :
    Calls Tryd.prog 7 #[.int .i64 a0] w fun e w' => e = .returned (.bool true) ∧ Below w.heap.size w w' := by
  by_cases h : 0 ≤ a0 ∧ a0 < 4294967295
  · obtain ⟨n, rfl⟩ : ∃ n : Nat, a0 = (n : Int) := ⟨a0.toNat, by omega⟩
    have hl := show4_len n (by omega)
    have hsz : (⟨(show4 n).toArray⟩ : ByteArray).size = (show4 n).length := rfl
    have hlz : (⟨(Deci.showN (n % 256)).toArray⟩ : ByteArray).size = (Deci.showN (n % 256)).length := rfl
    have hsum := congrArg List.length (show_ahead n)
    rw [List.length_append] at hsum
    have hp := ahead_pos n
    refine walkIn n (by omega) (decide_eq_false (by omega)) (decide_eq_false (by omega)) _ _ _ _ (Lib.hid rfl) (Lib.hid rfl) (Lib.hid rfl) (Lib.hid rfl) (by rw [hsz]; exact hl.1) (by rw [hsz]; exact hl.2) (Deci.showN_len_pow 2 (n % 256 + 1) (by omega)) (ahead n).length hp (by rw [hsz]; omega) (by rw [hsz, hlz]; unfold wrap64; omega) ?_ ?_ m w (Lib.hid hm)
    · rw [ByteArray.toList_eq, ByteArray.toList_eq, extract_end, beq_iff_eq]
      show (show4 n).drop _ = _
      rw [show_ahead, List.drop_left' rfl]
    · by_cases h255 : n % 256 = 255
      · exact .inl (by rw [beq_iff_eq]; omega)
      · refine .inr ⟨beq_false_of_ne (by omega), ?_⟩
        rw [ByteArray.toList_eq, ByteArray.toList_eq, beq_iff_eq, Deci.text_append, Lib.extract_from_zero]
        show show4 (n + 1) = (show4 n).take _ ++ _
        rw [show_ahead n, List.take_left' rfl, show_ahead (n + 1), ahead_next n h255, show (n + 1) % 256 = n % 256 + 1 by omega]
  · exact walkOut a0 (by simp; omega) m w (Lib.hid hm)

/-! ### The row's step -/
theorem reads (os : Os) {H : Type} (enc : TypeId × Value → H) : (DataW.whole enc Tryd.prog ((Card.laidWorld os).forCall (fun _ _ => 0) ⟨#[], #[.int .i64 0], []⟩).memory Tryd.f7.params.toList Rows.fourOrderSpec.vars false (#[.int .i64 0] : Array Value).toList 8).map (fun x => (x.1, x.2.1)) = some ([.lit (.int .i64 0)], []) := by kernel_rfl
set_option maxRecDepth 100000 in
theorem lifted (os : Os) (started : os.Started) (H : Type) (enc : TypeId × Value → H) (F : Stop.Interp) :
    ReturnsInHanded {} Tryd.checked os 7 .any ((OpenSpec.ofChange Rows.fourOrderSpec).preRow enc Tryd.prog Tryd.f7 Rows.fourOrderRow.domain false Rows.fourOrderRow.laid) (((OpenSpec.ofChange Rows.fourOrderSpec).at F).post enc Tryd.prog Tryd.f7 false true false false) := by
  obtain ⟨⟨x1, x2, x3⟩, hx, hx1⟩ := Option.map_eq_some_iff.1 (reads os enc)
  simp only [Prod.mk.injEq] at hx1
  obtain ⟨rfl, rfl⟩ := hx1
  refine returnsInHanded_of_row (C := Tryd.checked) (s := OpenSpec.ofChange Rows.fourOrderSpec) own started (by kernel_rfl) Tryd.func7
    (witness_row_at (enc := enc) (C := Tryd.checked) false (Card.laidWorld os) #[.int .i64 0] rfl (by kernel_rfl) (by kernel_rfl) (by kernel_rfl)
      (OpenSpec.preRow_of_cond 8 hx (by kernel_rfl) (fun k hk => by cases hk) (by kernel_rfl) (Card.laid_met os _))) ?_
  intro W base args ds gs before hval0 hW _ _ _ hL hsh _
  obtain ⟨m, hm⟩ := Card.maxLen_int hsh
  have hval : ∀ (j : Nat) t v, Tryd.f7.params[j]? = some t → args[j]? = some v → Value.okWide Tryd.prog W .any base t v := hval0
  have hW' := hW
  obtain ⟨p, q, hA0, hV, rfl, hfz, hnd⟩ := hW
  have hA : DataW.TrodAll enc Tryd.prog W 0 (fun _ => true) true Tryd.f7.params.toList args.toList ds p := hA0
  rw [Tryd.params7] at hA hval
  obtain ⟨v0, vs0, d0, ds0, p0, q0, hargs, rfl, rfl, h0, r0⟩ := trodAll_cons hA
  obtain ⟨rfl, rfl, rfl⟩ := trodAll_nil r0
  obtain rfl : args = #[v0] := by cases args; simp_all
  obtain ⟨rfl, rfl⟩ := trodVars_none hV
  obtain ⟨a0, rfl, rfl, rfl, w0⟩ := open_int Tryd.underlying3 (hval 0 3 v0 rfl rfl) h0
  clear hA0 hval0
  simp only [List.append_nil] at hW'
  refine (walk a0 w0 m W hm).mono fun e W' ⟨he, hg⟩ => ?_
  subst he
  exact ⟨_, rfl, _, _, _, [], _, [], hW', trodAll_mk1 (shut_bool Tryd.underlying4 _), (trodAll_cons_mk (shut_int Tryd.underlying3 w0) trodAll_mk0), rfl, hg.frame _, fun h => by cases h⟩

theorem said : Rows.fourOrderRow.holds Tryd.pinned (OpenSpec.ofChange Rows.fourOrderSpec) :=
  OpenClaim.holds_of_cond 7 Tryd.f7 rfl rfl rfl rfl rfl rfl rfl ⟨rfl, rfl, rfl, rfl, rfl⟩ rfl rfl rfl rfl rfl (by kernel_rfl) Tryd.func7 (by kernel_rfl)
    (of_decide_eq_true (by kernel_rfl)) (by unfold Func.isWrapper; first | (rw [if_pos (by decide +kernel)]; kernel_rfl) | (rw [if_neg (by decide +kernel)]; exact ⟨rfl, rfl⟩))
    (fun os started H enc _ F => by rw [OpenClaim.pre_eq_preRow]; exact lifted os started H enc F)

/-- No parameter wants a stand-in; the program's own looks are off. -/
theorem plain (f : FuncId) (fn : Func) (hf : Tryd.pinned.checked.prog.funcNamed Rows.fourOrderRow.func = some f) (hfn : Tryd.pinned.checked.prog.funcs[f]? = some fn) :
    false = Tryd.pinned.checked.prog.looks [] ∧ ∀ (j : Nat) t, fn.params[j]? = some t → Tryd.pinned.checked.prog.wantsStandIn t = false := by
  obtain rfl : f = 7 := Option.some.inj ((show Tryd.prog.funcNamed Rows.fourOrderRow.func = some 7 by kernel_rfl).symm.trans hf) |>.symm
  obtain rfl : fn = Tryd.f7 := (Option.some.inj (Tryd.func7.symm.trans hfn)).symm
  refine ⟨by kernel_rfl, fun j t ht => ?_⟩
  rw [Tryd.params7] at ht
  obtain rfl : t = 3 := by simpa using Array.mem_of_getElem? ht
  · exact (show Tryd.prog.wantsStandIn 3 = false by kernel_rfl)

/-- The statement: the card. -/
theorem proved : Rows.FourOrderCardSaid :=
  Claim7.holds_tied_plain_at .later [] _ _ _ _ said (fun _ h => by cases h) (by kernel_rfl) (fun _ h => by cases h) fourOrder_row_tie rfl ⟨rfl, rfl⟩ (by kernel_rfl) rfl plain (by kernel_rfl)
#print axioms proved
end Go.Proofs.YtknlahgcpnhaiaaDoor.fourOrder
