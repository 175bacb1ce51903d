/-
  PathParse of layer 8 returns true for every input and leaves its arguments as they were: the text of a path is encoded as its segments are; what stands between slashes stays, if it is no dots. Conditions: the two tables of unicode/utf8 lie as their texts lay them (listed by the card), internal/bytealg.MaxLen holds any int.
-/
import Derived.Test.YtbofkmaajhfkeaaDoorCards
import Derived.Test.YtbofkmaajhfkeaaDoorTie
import Derived.WalkKit
import Derived.ProofKit
import Derived.OpenShut
import Derived.ShutString
import Derived.ChangeOld
import Derived.Below
import Derived.Test.YtbofkmaajhfkeaaDoorPaOpen
namespace Go.Proofs.YtbofkmaajhfkeaaDoor.pathParse
open Go.ChangeShapes Go.WideShapes Go.ChangeAt Go.RowKit
open Go.ChangeMaps (open_string shut_string)
open Go.Shelf
open Go.Proofs.YtbofkmaajhfkeaaDoor.Path
set_option linter.unusedSimpArgs false
set_option linter.unusedVariables false

theorem own : ownKnob Tryd.prog.godebug = none := by kernel_rfl
theorem laidOut : laidOutB Tryd.prog = true := by kernel_rfl

theorem quiet_load {P : Program} {C : World → Prop} {o : Oper} {a : Act} {K : Act → Prop} (ty : TypeId) (x : Operand) (ho : o.op = .load ty x) (p : Addr) (hx : a.eval x = .pointer (some p)) (v : Value) (hr : ∀ u, C u → (loadVar ty p).run P u = .ok v u) (hk : K (a.put o.dst v)) : o.quiet P a C K :=
  ⟨_, fun w hw => by
    unfold Oper.quietAt execOp
    simp only [ho, hx, Instr.loadAt, Instr.sureAddr, Sem.run_bind, Sem.run_pure, Result.andThen_ok, hr w hw]
    exact ⟨rfl, rfl⟩, hk⟩
theorem text_load {u : World} {p : Addr} {s : ByteArray} (h : u.cell? p = some (.string s)) : (loadVar 9 p).run Tryd.prog u = .ok (.string s) u := by
  simp [loadVar, Tryd.isAgg9, h, go_sem]
theorem take_no (s : ByteArray) (k : Nat) (h : k < s.size) (hp : (47 : UInt8) ∉ s.data.toList.take k) (hd : ((s[k].toNat : Int) == 47) = false) : (47 : UInt8) ∉ s.data.toList.take (k + 1) := by
  rw [Ascii.take_snoc s k h]
  simp only [List.mem_append, List.mem_singleton, not_or]
  refine ⟨hp, fun e => ?_⟩
  rw [← e] at hd
  cases hd
theorem long_any (a0 a1 : ByteArray) (w0 : a0.size ≤ 9223372036854775807) (w1 : a1.size ≤ 9223372036854775807) (h : 100 < a0.size ∨ (a0.size ≤ 100 ∧ 100 < a1.size)) (m : Int) (w : World) (hm : MaxAt m w) :
    Calls Tryd.prog 6 #[.string a0, .string a1] w fun e w' => e = .returned (.bool true) ∧ Below w.heap.size w w' := by
  rcases h with h | ⟨h, h'⟩
  · have q : decide ((100 : Int) < (a0.size : Int)) = true := decide_eq_true (by omega)
    go_enter Tryd.func6, Tryd.ntmps6
    go_wp2_with fail
    refine (awake_at hm).mono ?_
    rintro e u1 ⟨rfl, hB1⟩
    go_wp2
    go_ret
    exact ⟨rfl, hB1⟩
  · have q0 : decide ((100 : Int) < (a0.size : Int)) = false := decide_eq_false (by omega)
    have q1 : decide ((100 : Int) < (a1.size : Int)) = true := decide_eq_true (by omega)
    go_enter Tryd.func6, Tryd.ntmps6
    go_wp2_with fail
    refine (awake_at hm).mono ?_
    rintro e u1 ⟨rfl, hB1⟩
    go_wp2
    go_ret
    exact ⟨rfl, hB1⟩
set_option maxRecDepth 100000 in
set_option maxHeartbeats 8000000 in
theorem walk (a0 a1 : ByteArray) (w0 : a0.size ≤ maxLen) (w1 : a1.size ≤ maxLen) (m : Int) (w : World) (hm : MaxAt m w) :
    Calls Tryd.prog 6 #[.string a0, .string a1] w fun e w' => e = .returned (.bool true) ∧ Below w.heap.size w w' := by
  unfold maxLen at w0 w1
  by_cases h0 : a0.size ≤ 100
  case neg => exact long_any a0 a1 w0 w1 (.inl (by omega)) m w hm
  by_cases h1 : a1.size ≤ 100
  case neg => exact long_any a0 a1 w0 w1 (.inr ⟨h0, by omega⟩) m w hm
  have q0 : decide ((100 : Int) < (a0.size : Int)) = false := decide_eq_false (by omega)
  have q1 : decide ((100 : Int) < (a1.size : Int)) = false := decide_eq_false (by omega)
  go_enter Tryd.func6, Tryd.ntmps6
  go_wp2_with fail
  refine (awake_at hm).mono ?_
  rintro e u1 ⟨rfl, hB1⟩
  go_wp2
  go_loop [6] (fun i => ∃ k : Nat, k ≤ a0.size ∧ i = .int .i64 k ∧ (47 : UInt8) ∉ a0.data.toList.take k) (fun i => a0.size - (intOf i).toNat)
  case atStart => exact ⟨0, Nat.zero_le _, rfl, by simp⟩
  case round =>
    obtain ⟨k, hk, rfl, hno⟩ := hrel
    have HNO := Lib.hid hno
    clear hno
    by_cases hlt : k < a0.size
    · cases he : ((a0[k].toNat : Int) == 47)
      · have HE := Lib.hid (take_no a0 k hlt HNO.out he)
        go_wp2
        go_round
        case rel => exact ⟨k + 1, by omega, by go_num, HE.out⟩
        case measure => simp [intOf]; omega
      · go_wp2
        go_ret
        exact ⟨rfl, hB1⟩
    · obtain rfl : k = a0.size := by omega
      have hna : (47 : UInt8) ∉ a0.data.toList := by
        have := HNO.out
        rwa [List.take_of_length_le (by exact Nat.le_refl _)] at this
      have HNA := Lib.hid hna
      clear hna HNO
      go_wp2
      go_loop [7] (fun i => ∃ k : Nat, k ≤ a1.size ∧ i = .int .i64 k ∧ (47 : UInt8) ∉ a1.data.toList.take k) (fun i => a1.size - (intOf i).toNat)
      case atStart => exact ⟨0, Nat.zero_le _, rfl, by simp⟩
      case round =>
        obtain ⟨k, hk, rfl, hno⟩ := hrel
        have HNO := Lib.hid hno
        clear hno
        by_cases hlt : k < a1.size
        · cases he : ((a1[k].toNat : Int) == 47)
          · have HE := Lib.hid (take_no a1 k hlt HNO.out he)
            go_wp2
            go_round
            case rel => exact ⟨k + 1, by omega, by go_num, HE.out⟩
            case measure => simp [intOf]; omega
          · go_wp2
            go_ret
            exact ⟨rfl, hB1⟩
        · obtain rfl : k = a1.size := by omega
          have hnb : (47 : UInt8) ∉ a1.data.toList := by
            have := HNO.out
            rwa [List.take_of_length_le (by exact Nat.le_refl _)] at this
          have HNB := Lib.hid hnb
          clear hnb HNO
          have z0 : (⟨#[47]⟩ ++ a0 : ByteArray).size ≤ 200 := by rw [ByteArray.size_append, show (⟨#[47]⟩ : ByteArray).size = 1 from rfl]; omega
          have z2 : ((⟨#[47]⟩ ++ a0) ++ ⟨#[47]⟩ : ByteArray).size ≤ 300 := by rw [ByteArray.size_append, show (⟨#[47]⟩ : ByteArray).size = 1 from rfl]; omega
          go_wp2_with fail
          refine (parse_any _ (by rw [ByteArray.size_append]; omega) m u1 (hm.later hB1)).mono ?_
          rintro e u2 ⟨x, rfl, hx, hB2⟩
          rw [text_append, text_append, text_append, show ((⟨#[47]⟩ : ByteArray).data.toList ++ a0.data.toList ++ (⟨#[47]⟩ : ByteArray).data.toList) ++ a1.data.toList = 47 :: (a0.data.toList ++ 47 :: a1.data.toList) by simp] at hx
          have hB2' := hB1.trans (hB2.mono hB1.size)
          have hpn := parse_ne (47 :: (a0.data.toList ++ 47 :: a1.data.toList))
          have htwo := parse_two a0.data.toList a1.data.toList HNA.out HNB.out
          generalize parse (47 :: (a0.data.toList ++ 47 :: a1.data.toList)) = P at hx hpn htwo
          have HT := Lib.hid htwo
          have hPn : 0 < P.length := List.length_pos_iff.2 hpn
          clear htwo hpn
          have ca := fun u (hu : MaxAt m u) => dots_any a0 (by omega) m u hu
          have cb := fun u (hu : MaxAt m u) => dots_any a1 (by omega) m u hu
          obtain ⟨da, hda⟩ : ∃ d : Nat, dotsN a0.data.toList = d := ⟨_, rfl⟩
          obtain ⟨db, hdb⟩ : ∃ d : Nat, dotsN a1.data.toList = d := ⟨_, rfl⟩
          rw [hda] at ca
          rw [hdb] at cb
          have HDA := Lib.hid hda
          have HDB := Lib.hid hdb
          clear hda hdb
          rcases Nat.eq_zero_or_pos da with rfl | hp
          case inr =>
            have hxs := hx
            obtain ⟨ax, cx, rfl, _⟩ := hxs
            have q2 : decide ((0 : Int) < (da : Int)) = true := decide_eq_true (by omega)
            have q3 : decide (0 < da) = true := decide_eq_true (by omega)
            have q4 : decide ((1 : Int) ≤ (P.length : Int)) = true := decide_eq_true (by omega)
            have q5 : decide (1 ≤ P.length) = true := decide_eq_true (by omega)
            have q6 : decide (0 < P.length) = true := decide_eq_true (by omega)
            go_wp2_with fail
            refine (ca u2 (hm.later hB2')).mono ?_
            rintro e u3 ⟨rfl, hB3⟩
            have hB3' := hB2'.trans (hB3.mono hB2'.size)
            go_wp2
            go_ret
            exact ⟨rfl, hB3'⟩
          rcases Nat.eq_zero_or_pos db with rfl | hp
          case inr =>
            have hxs := hx
            obtain ⟨ax, cx, rfl, _⟩ := hxs
            have q2 : decide ((0 : Int) < (db : Int)) = true := decide_eq_true (by omega)
            have q3 : decide (0 < db) = true := decide_eq_true (by omega)
            have q4 : decide ((1 : Int) ≤ (P.length : Int)) = true := decide_eq_true (by omega)
            have q5 : decide (1 ≤ P.length) = true := decide_eq_true (by omega)
            have q6 : decide (0 < P.length) = true := decide_eq_true (by omega)
            go_wp2_with fail
            refine (ca u2 (hm.later hB2')).mono ?_
            rintro e u3 ⟨rfl, hB3⟩
            have hB3' := hB2'.trans (hB3.mono hB2'.size)
            go_wp2_with fail
            refine (cb u3 (hm.later hB3')).mono ?_
            rintro e u4 ⟨rfl, hB4⟩
            have hB4' := hB3'.trans (hB4.mono hB3'.size)
            go_wp2
            go_ret
            exact ⟨rfl, hB4'⟩
          have hP := HT.out HDA.out HDB.out
          clear hPn
          subst hP
          obtain ⟨b, o, c, rfl, k1, k2, f0, f1⟩ := strs2 hx
          unfold maxLen at k2
          go_wp2_with fail
          refine (ca u2 (hm.later hB2')).mono ?_
          rintro e u3 ⟨rfl, hB3⟩
          have hB3' := hB2'.trans (hB3.mono hB2'.size)
          go_wp2_with fail
          refine (cb u3 (hm.later hB3')).mono ?_
          rintro e V ⟨rfl, hB4⟩
          have hB4' := hB3'.trans (hB4.mono hB3'.size)
          obtain ⟨b', o', c', e', _, _, f0', f1'⟩ := strs2 ((hx.later hB3).later hB4)
          cases e'
          clear f0 f1 ca cb hx
          have kA := Lib.hid (show ∀ (t : ByteArray) (ht : t.size ≤ 100) (u : World) (hu : Below V.heap.size V u), Calls Tryd.prog 18 #[.string t, .int .i64 3] u fun e u' => e = .returned (.string ⟨(enc t.data.toList).toArray⟩) ∧ Below V.heap.size V u' from fun t ht u hu => (Pct.encode_any t (by omega) 3 u).mono fun e u' h => ⟨h.1, hu.trans (h.2.mono hu.size)⟩)
          have F0 := Lib.hid (show ∀ u, Below V.heap.size V u → (loadVar 9 ⟨b, o, none⟩).run Tryd.prog u = .ok (.string ⟨(enc a0.data.toList).toArray⟩) u from fun u hu => text_load ((hu.cell (p := ⟨b, o, none⟩) (World.block_lt_of_cell? _ _ f0')).trans f0'))
          have F1 := Lib.hid (show ∀ u, Below V.heap.size V u → (loadVar 9 ⟨b, o + 1, none⟩).run Tryd.prog u = .ok (.string ⟨(enc a1.data.toList).toArray⟩) u from fun u hu => text_load ((hu.cell (p := ⟨b, o + 1, none⟩) (World.block_lt_of_cell? _ _ f1')).trans f1'))
          have hany : ∀ p : Prop, (∀ u, Below V.heap.size V u → p) ↔ p := fun p => ⟨fun h => h _ (Below.refl _ _), fun h _ _ => h⟩
          clear f0' f1'
          go_wp2
          refine Ascii.wp_region_quiet_below (by kernel_rfl) (by kernel_rfl) ?_
          iterate 6 (go_big_quiet_step (fail))
          ((go_big_quiet_want; (with_reducible refine quiet_load (o := ⟨some 66, .load 9 (.tmp 65), _, _, _, _⟩) 9 (.tmp 65) ?_ ⟨b, o, none⟩ ?_ (.string ⟨(enc a0.data.toList).toArray⟩) ?_ ?_); (· rfl); (· rfl); (· exact F0.out)); go_big_quiet_on; simp only [Act.put, List.setIfInBounds_toArray, List.set_cons_succ, List.set_cons_zero])
          go_big_quiet_step (fail)
          go_big_quiet_step ((intro hu; go_at_call 18; exact kA.out a0 h0 _ hu))
          iterate 5 (go_big_quiet_step (fail))
          ((go_big_quiet_want; (with_reducible refine quiet_load (o := ⟨some 74, .load 9 (.tmp 73), _, _, _, _⟩) 9 (.tmp 73) ?_ ⟨b, o + 1, none⟩ ?_ (.string ⟨(enc a1.data.toList).toArray⟩) ?_ ?_); (· rfl); (· rfl); (· exact F1.out)); go_big_quiet_on; simp only [Act.put, List.setIfInBounds_toArray, List.set_cons_succ, List.set_cons_zero])
          go_big_quiet_step (fail)
          go_big_quiet_step ((intro hu; go_at_call 18; exact kA.out a1 h1 _ hu))
          repeat (go_big_quiet_step (fail))
          refine wpQuiet_nil ?_
          intro u hu
          go_wp2
          go_ret
          exact ⟨rfl, hB4'.trans (hu.mono hB4'.size)⟩

/-! ### The row's step -/
theorem reads (os : Os) {H : Type} (enc : TypeId × Value → H) : (DataW.whole enc Tryd.prog ((Card.laidWorld os).forCall (fun _ _ => 0) ⟨#[], #[.string ByteArray.empty, .string ByteArray.empty], []⟩).memory Tryd.f6.params.toList Rows.pathParseSpec.vars false (#[.string ByteArray.empty, .string ByteArray.empty] : Array Value).toList 8).map (fun x => (x.1, x.2.1)) = some ([.lit (.string []), .lit (.string [])], []) := by kernel_rfl
set_option maxRecDepth 100000 in
theorem lifted (os : Os) (started : os.Started) (H : Type) (enc : TypeId × Value → H) (F : Stop.Interp) :
    ReturnsInHanded {} Tryd.checked os 6 .any ((OpenSpec.ofChange Rows.pathParseSpec).preRow enc Tryd.prog Tryd.f6 Rows.pathParseRow.domain false Rows.pathParseRow.laid) (((OpenSpec.ofChange Rows.pathParseSpec).at F).post enc Tryd.prog Tryd.f6 false true false false) := by
  obtain ⟨⟨x1, x2, x3⟩, hx, hx1⟩ := Option.map_eq_some_iff.1 (reads os enc)
  simp only [Prod.mk.injEq] at hx1
  obtain ⟨rfl, rfl⟩ := hx1
  refine returnsInHanded_of_row (C := Tryd.checked) (s := OpenSpec.ofChange Rows.pathParseSpec) own started (by kernel_rfl) Tryd.func6
    (witness_row_at (enc := enc) (C := Tryd.checked) false (Card.laidWorld os) #[.string ByteArray.empty, .string ByteArray.empty] rfl (by kernel_rfl) (by kernel_rfl) (by kernel_rfl)
      (OpenSpec.preRow_of_cond 8 hx (by kernel_rfl) (fun k hk => by cases hk) (by kernel_rfl) (Card.laid_met os _))) ?_
  intro W base args ds gs before hval0 hW _ _ _ hL hsh _
  obtain ⟨m, hm⟩ := Card.maxLen_int hsh
  have hval : ∀ (j : Nat) t v, Tryd.f6.params[j]? = some t → args[j]? = some v → Value.okWide Tryd.prog W .any base t v := hval0
  have hW' := hW
  obtain ⟨p, q, hA0, hV, rfl, hfz, hnd⟩ := hW
  have hA : DataW.TrodAll enc Tryd.prog W 0 (fun _ => true) true Tryd.f6.params.toList args.toList ds p := hA0
  rw [Tryd.params6] at hA hval
  obtain ⟨v0, vs0, d0, ds0, p0, q0, hargs0, rfl, rfl, t0, r0⟩ := trodAll_cons hA
  obtain ⟨v1, vs1, d1, ds1, p1, q1, hargs1, rfl, rfl, t1, r1⟩ := trodAll_cons r0
  obtain ⟨rfl, rfl, rfl⟩ := trodAll_nil r1
  obtain rfl : args = #[v0, v1] := by cases args; simp_all
  obtain ⟨rfl, rfl⟩ := trodVars_none hV
  obtain ⟨a0, rfl, rfl, rfl, w0⟩ := open_string Tryd.underlying9 (hval 0 9 v0 rfl rfl) t0
  obtain ⟨a1, rfl, rfl, rfl, w1⟩ := open_string Tryd.underlying9 (hval 1 9 v1 rfl rfl) t1
  clear hA0 hval0
  simp only [List.append_nil] at hW'
  refine (walk a0 a1 w0 w1 m W hm ).mono fun e W' ⟨he, bel⟩ => ?_
  subst he
  exact ⟨_, rfl, _, _, _, [], _, [], hW', trodAll_mk1 (shut_bool Tryd.underlying4 _), (trodAll_cons_mk (shut_string Tryd.underlying9 w0) (trodAll_cons_mk (shut_string Tryd.underlying9 w1) trodAll_mk0)), rfl, bel.frame _, fun h => by cases h⟩

theorem said : Rows.pathParseRow.holds Tryd.pinned (OpenSpec.ofChange Rows.pathParseSpec) :=
  OpenClaim.holds_of_cond 6 Tryd.f6 rfl rfl rfl rfl rfl rfl rfl ⟨rfl, rfl, rfl, rfl, rfl⟩ rfl rfl rfl rfl rfl (by kernel_rfl) Tryd.func6 (by kernel_rfl)
    (of_decide_eq_true (by kernel_rfl)) (by unfold Func.isWrapper; first | (rw [if_pos (by decide +kernel)]; kernel_rfl) | (rw [if_neg (by decide +kernel)]; exact ⟨rfl, rfl⟩))
    (fun os started H enc _ F => by rw [OpenClaim.pre_eq_preRow]; exact lifted os started H enc F)

/-- No parameter wants a stand-in; the program's own looks are off. -/
theorem plain (f : FuncId) (fn : Func) (hf : Tryd.pinned.checked.prog.funcNamed Rows.pathParseRow.func = some f) (hfn : Tryd.pinned.checked.prog.funcs[f]? = some fn) :
    false = Tryd.pinned.checked.prog.looks [] ∧ ∀ (j : Nat) t, fn.params[j]? = some t → Tryd.pinned.checked.prog.wantsStandIn t = false := by
  obtain rfl : f = 6 := Option.some.inj ((show Tryd.prog.funcNamed Rows.pathParseRow.func = some 6 by kernel_rfl).symm.trans hf) |>.symm
  obtain rfl : fn = Tryd.f6 := (Option.some.inj (Tryd.func6.symm.trans hfn)).symm
  refine ⟨by kernel_rfl, fun j t ht => ?_⟩
  rw [Tryd.params6] at ht
  obtain rfl : t = 9 := by simpa using Array.mem_of_getElem? ht
  · exact (show Tryd.prog.wantsStandIn 9 = false by kernel_rfl)

/-- The statement: the card. -/
theorem proved : Rows.PathParseCardSaid :=
  Claim7.holds_tied_plain_at .later [] _ _ _ _ said (fun _ h => by cases h) (by kernel_rfl) (fun _ h => by cases h) pathParse_row_tie rfl ⟨rfl, rfl⟩ (by kernel_rfl) rfl plain (by kernel_rfl)
#print axioms proved
end Go.Proofs.YtbofkmaajhfkeaaDoor.pathParse
