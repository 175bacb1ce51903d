/-
  WHAT IS PROVED: the card of UrlScheme: of any text of at most 300 bytes url's Scheme answers nothing, or a name of small letters, digits and three other bytes that begins by a letter, and what stands behind the colon; and name, colon and rest are told again so.
  CONDITIONS: none but the card's own: the listed tables read as their texts lay them; the text and the number are any.
-/
import Derived.Test.YtfdhhjigpboieaaGreatDoorCards
import Derived.Test.YtfdhhjigpboieaaGreatDoorTie
import Derived.WalkKit
import Derived.ProofKit
import Derived.OpenShut
import Derived.ShutString
import Derived.ChangeOld
import Derived.Below
import Derived.Test.YtfdhhjigpboieaaGreatDoorUOpen
namespace Go.Proofs.YtfdhhjigpboieaaGreatDoor.urlScheme
open Go.ChangeShapes Go.WideShapes Go.ChangeAt Go.RowKit
open Go.ChangeMaps (open_string shut_string)
open Go.Shelf
open Go.Proofs.YtfdhhjigpboieaaGreatDoor.Url
open Go.Proofs.YtfdhhjigpboieaaGreatDoor.Host (H)
open Go.Proofs.YtfdhhjigpboieaaGreatDoor.Path (Strs)
set_option linter.unusedSimpArgs false
set_option linter.unusedVariables false

theorem own : ownKnob Tryz.prog.godebug = none := by kernel_rfl
theorem laidOut : laidOutB Tryz.prog = true := by kernel_rfl

theorem size_app (s t : ByteArray) : (s ++ t).size = s.size + t.size := by
  show (s ++ t).data.toList.length = _
  rw [Path.text_append, List.length_append]; rfl
theorem nth (x : ByteArray) (k : Nat) (h : k < x.size) : x.data.toList[k]'h = x[k] := rfl
theorem low_nth (x : ByteArray) (l : T) (h : x.data.toList = Ascii.lower l) (hn : named l = true) (k : Nat) (hk : k < x.size) : let m := (x[k]).toNat; (97 ≤ m ∧ m ≤ 122) ∨ (48 ≤ m ∧ m ≤ 57) ∨ m = 43 ∨ m = 45 ∨ m = 46 := by
  have hm : x[k] ∈ Ascii.lower l := by rw [← h, ← nth x k hk]; exact List.getElem_mem _
  obtain ⟨c, hc, e⟩ := List.mem_map.1 (show x[k] ∈ l.map Ascii.lowB from hm)
  have := (name_at c ((named_iff l).1 hn |>.1 c hc)).2.2.2.2.2.2
  rw [e] at this
  exact this
theorem low_first (x : ByteArray) (l : T) (h : x.data.toList = Ascii.lower l) (hn : named l = true) (hk : 0 < x.size) : 97 ≤ (x[0]).toNat ∧ (x[0]).toNat ≤ 122 := by
  have hh := ((named_iff l).1 hn).2
  cases l with
  | nil => exact absurd hh (by simp [headB])
  | cons c r =>
    have e : x[0] = Ascii.lowB c := by
      rw [← nth x 0 hk]
      simp only [h]
      rfl
    rw [e]
    exact (head_at c hh).2
set_option maxRecDepth 100000 in
set_option maxHeartbeats 8000000 in
theorem walk (a0 : ByteArray) (a1 : Int) (w0 : a0.size ≤ maxLen) (w1 : (Lit.int .i64 a1).wf = true) (m : Int) (w : World) (hm : Six.At m w) :
    Calls Tryz.prog 6 #[.string a0, .int .i64 a1] w fun e w' => e = .returned (.bool true) ∧ Below w.heap.size w w' := by
  unfold maxLen at w0
  by_cases hs : a0.size ≤ 300
  case neg =>
    have q0 : decide ((300 : Int) < (a0.size : Int)) = true := decide_eq_true (by omega)
    go_enter Tryz.func6, Tryz.ntmps6
    go_wp2_with fail
    refine (awake_calls m w hm).mono ?_
    rintro e u1 ⟨rfl, hB1⟩
    go_wp2
    go_ret
    exact ⟨rfl, hB1⟩
  have q0 : decide ((300 : Int) < (a0.size : Int)) = false := decide_eq_false (by omega)
  cases hb : schB a0.data.toList
  · have hx : schS a0.data.toList = [] := by unfold schS; rw [hb]; rfl
    have hy : schR a0.data.toList = [] := by unfold schR; rw [hb]; rfl
    have CS := Lib.hid (fun u hu => scheme_any a0 (by omega) ⟨#[]⟩ ⟨#[]⟩ false (by rw [hx]; rfl) (by rw [hy]; rfl) hb m u hu)
    clear hx hy hb
    go_enter Tryz.func6, Tryz.ntmps6
    go_wp2_with fail
    refine (awake_calls m w hm).mono ?_
    rintro e u1 ⟨rfl, hB1⟩
    go_wp2_with fail
    refine (CS.out _ (hm.later hB1)).mono ?_
    rintro e u2 ⟨rfl, hB2⟩
    go_wp2
    go_ret
    exact ⟨rfl, Ascii.below2 hB1 hB2⟩
  · obtain ⟨p1, p2, p3, p4⟩ := sch_parts hb
    obtain ⟨g1, g2, g3⟩ := sch_again hb
    obtain ⟨x, hx⟩ : ∃ x, tb (schS a0.data.toList) = x := ⟨_, rfl⟩
    obtain ⟨y, hy⟩ : ∃ y, tb (schR a0.data.toList) = y := ⟨_, rfl⟩
    have CS := Lib.hid (fun u hu => scheme_any a0 (by omega) x y true hx hy hb m u hu)
    have hxl := list_tb hx
    have hyl := list_tb hy
    have hxs : x.size = (bef 58 a0.data.toList).length := by rw [size_tb hx, p3]; simp [Ascii.lower]
    have hys : y.size = (aft 58 a0.data.toList).length := by rw [size_tb hy, p4]
    have hsz : x.size + 1 + y.size = a0.size := by
      rw [hxs, hys]
      have := congrArg List.length p1
      rw [size_list, List.length_append, List.length_cons] at this
      omega
    have hpos : 0 < x.size := by
      rw [hxs]
      have := ((named_iff _).1 p2).2
      cases hbf : bef 58 a0.data.toList with
      | nil => rw [hbf] at this; exact absurd this (by simp [headB])
      | cons c r => simp
    have hlt : x.size < a0.size := by omega
    have hcol : a0[x.size] = 58 := by
      rw [← nth a0 x.size hlt]
      have : a0.data.toList[x.size]? = some 58 := by
        rw [p1, hxs, List.getElem?_append_right (Nat.le_refl _), Nat.sub_self]; rfl
      obtain ⟨_, h⟩ := List.getElem?_eq_some_iff.1 this
      exact h
    obtain ⟨z, hz⟩ : ∃ z, x ++ ⟨#[58]⟩ ++ y = z := ⟨_, rfl⟩
    have hzl : z.data.toList = schS a0.data.toList ++ 58 :: schR a0.data.toList := by
      rw [← hz, Path.text_append, Path.text_append, hxl, hyl, show (⟨#[58]⟩ : ByteArray).data.toList = [58] from rfl]; simp
    have hz1 : z.size ≤ 400 := by rw [← hz, size_app, size_app]; show x.size + 1 + y.size ≤ 400; omega
    have CZ := Lib.hid (fun u hu => scheme_any z (by omega) x y true (by rw [hzl, g2, hx]) (by rw [hzl, g3, hy]) (by rw [hzl, g1]) m u hu)
    have hfirst := low_first x _ (by rw [hxl, p3]) p2 hpos
    have hnth := fun k hk => low_nth x _ (by rw [hxl, p3]) p2 k hk
    have HZ := Lib.hid hz
    have q1 : x.toList.isEmpty = false := by
      rw [Path.tl]
      cases h : x.data.toList with
      | nil => have : x.data.toList.length = 0 := by rw [h]; rfl
               rw [size_list] at this; omega
      | cons a r => rfl
    have q2 : (((x.size : Int) + 1 + (y.size : Int)) != (a0.size : Int)) = false := by
      have : (x.size : Int) + 1 + (y.size : Int) = (a0.size : Int) := by omega
      rw [this]; simp
    have q3 : (((a0[x.size]).toNat : Int) != 58) = false := by rw [hcol]; rfl
    have q4 : decide (((x[0]).toNat : Int) < 97) = false := decide_eq_false (by omega)
    have q5 : decide ((122 : Int) < ((x[0]).toNat : Int)) = false := decide_eq_false (by omega)
    have HN := Lib.hid hnth
    have hx3 : x.size ≤ 300 := by omega
    have hy3 : y.size ≤ 300 := by omega
    clear hnth hfirst hzl hz hx hy hxl hyl hxs hys hcol p1 p2 p3 p4 g1 g2 g3 hb
    go_enter Tryz.func6, Tryz.ntmps6
    go_wp2_with fail
    refine (awake_calls m w hm).mono ?_
    rintro e u1 ⟨rfl, hB1⟩
    go_wp2_with fail
    refine (CS.out _ (hm.later hB1)).mono ?_
    rintro e u2 ⟨rfl, hB2⟩
    have HM2 := Lib.hid ((hm.later hB1).later hB2)
    have HB2 := Lib.hid (Ascii.below2 hB1 hB2)
    clear hB1 hB2 CS hm
    go_wp2_with fail
    rw [HZ.out]
    refine (CZ.out _ HM2.out).mono ?_
    rintro e u3 ⟨rfl, hB3⟩
    have HB3 := Lib.hid (Ascii.below2 HB2.out hB3)
    clear hB3 CZ HM2 HZ q1 q2 q3 q4 q5 HB2
    by_cases h0 : 0 ≤ a1
    case neg =>
      have r0 : decide ((0 : Int) ≤ a1) = false := decide_eq_false h0
      go_wp2
      go_ret
      exact ⟨rfl, HB3.out⟩
    obtain ⟨k, rfl⟩ : ∃ k : Nat, a1 = (k : Int) := ⟨a1.toNat, by omega⟩
    by_cases hk : k < x.size
    case neg =>
      have r1 : decide ((k : Int) < (x.size : Int)) = false := decide_eq_false (by omega)
      go_wp2
      go_ret
      exact ⟨rfl, HB3.out⟩
    have r0 : decide ((0 : Int) ≤ (k : Int)) = true := decide_eq_true h0
    have r1 : decide ((k : Int) < (x.size : Int)) = true := decide_eq_true (by omega)
    have hN : (97 ≤ (x[k]).toNat ∧ (x[k]).toNat ≤ 122) ∨ (48 ≤ (x[k]).toNat ∧ (x[k]).toNat ≤ 57) ∨ (x[k]).toNat = 43 ∨ (x[k]).toNat = 45 ∨ (x[k]).toNat = 46 := HN.out k hk
    clear HN
    rcases hN with h | h | h | h | h
    · have s1 : decide (((x[k]).toNat : Int) < 97) = false := decide_eq_false (by omega)
      have s2 : decide ((122 : Int) < ((x[k]).toNat : Int)) = false := decide_eq_false (by omega)
      clear h
      go_wp2
      go_ret
      exact ⟨rfl, HB3.out⟩
    · have s1 : decide (((x[k]).toNat : Int) < 97) = true := decide_eq_true (by omega)
      have s3 : decide (((x[k]).toNat : Int) < 48) = false := decide_eq_false (by omega)
      have s4 : decide ((57 : Int) < ((x[k]).toNat : Int)) = false := decide_eq_false (by omega)
      clear h
      go_wp2
      go_ret
      exact ⟨rfl, HB3.out⟩
    · have s1 : decide (((x[k]).toNat : Int) < 97) = true := decide_eq_true (by omega)
      have s3 : decide (((x[k]).toNat : Int) < 48) = true := decide_eq_true (by omega)
      have s5 : (((x[k]).toNat : Int) != 43) = false := by rw [h]; rfl
      clear h
      go_wp2
      go_ret
      exact ⟨rfl, HB3.out⟩
    · have s1 : decide (((x[k]).toNat : Int) < 97) = true := decide_eq_true (by omega)
      have s3 : decide (((x[k]).toNat : Int) < 48) = true := decide_eq_true (by omega)
      have s5 : (((x[k]).toNat : Int) != 43) = true := by rw [h]; rfl
      have s6 : (((x[k]).toNat : Int) != 45) = false := by rw [h]; rfl
      clear h
      go_wp2
      go_ret
      exact ⟨rfl, HB3.out⟩
    · have s1 : decide (((x[k]).toNat : Int) < 97) = true := decide_eq_true (by omega)
      have s3 : decide (((x[k]).toNat : Int) < 48) = true := decide_eq_true (by omega)
      have s5 : (((x[k]).toNat : Int) != 43) = true := by rw [h]; rfl
      have s6 : (((x[k]).toNat : Int) != 45) = true := by rw [h]; rfl
      have s7 : (((x[k]).toNat : Int) != 46) = false := by rw [h]; rfl
      clear h
      go_wp2
      go_ret
      exact ⟨rfl, HB3.out⟩

/-! ### The row's step -/
theorem reads (os : Os) {H : Type} (enc : TypeId × Value → H) : (DataW.whole enc Tryz.prog ((Card.laidWorld os).forCall (fun _ _ => 0) ⟨#[], #[.string ByteArray.empty, .int .i64 0], []⟩).memory Tryz.f6.params.toList Rows.urlSchemeSpec.vars false (#[.string ByteArray.empty, .int .i64 0] : Array Value).toList 8).map (fun x => (x.1, x.2.1)) = some ([.lit (.string []), .lit (.int .i64 0)], []) := by kernel_rfl
set_option maxRecDepth 100000 in
theorem lifted (os : Os) (started : os.Started) (H : Type) (enc : TypeId × Value → H) (F : Stop.Interp) :
    ReturnsInHanded {} Tryz.checked os 6 .any ((OpenSpec.ofChange Rows.urlSchemeSpec).preRow enc Tryz.prog Tryz.f6 Rows.urlSchemeRow.domain false Rows.urlSchemeRow.laid) (((OpenSpec.ofChange Rows.urlSchemeSpec).at F).post enc Tryz.prog Tryz.f6 false true false false) := by
  obtain ⟨⟨x1, x2, x3⟩, hx, hx1⟩ := Option.map_eq_some_iff.1 (reads os enc)
  simp only [Prod.mk.injEq] at hx1
  obtain ⟨rfl, rfl⟩ := hx1
  refine returnsInHanded_of_row (C := Tryz.checked) (s := OpenSpec.ofChange Rows.urlSchemeSpec) own started (by kernel_rfl) Tryz.func6
    (witness_row_at (enc := enc) (C := Tryz.checked) false (Card.laidWorld os) #[.string ByteArray.empty, .int .i64 0] rfl (by kernel_rfl) (by kernel_rfl) (by kernel_rfl)
      (OpenSpec.preRow_of_cond 8 hx (by kernel_rfl) (fun k hk => by cases hk) (by kernel_rfl) (Card.laid_met os _))) ?_
  intro W base args ds gs before hval0 hW _ _ _ hL hsh _
  obtain ⟨m, hmax⟩ := Card.maxLen_int hsh
  have hm : Six.At m W := ⟨hmax, Six.tab_of hL⟩
  have hval : ∀ (j : Nat) t v, Tryz.f6.params[j]? = some t → args[j]? = some v → Value.okWide Tryz.prog W .any base t v := hval0
  have hW' := hW
  obtain ⟨p, q, hA0, hV, rfl, hfz, hnd⟩ := hW
  have hA : DataW.TrodAll enc Tryz.prog W 0 (fun _ => true) true Tryz.f6.params.toList args.toList ds p := hA0
  rw [Tryz.params6] at hA hval
  obtain ⟨v0, vs0, d0, ds0, p0, q0, hargs0, rfl, rfl, t0, r0⟩ := trodAll_cons hA
  obtain ⟨v1, vs1, d1, ds1, p1, q1, hargs1, rfl, rfl, t1, r1⟩ := trodAll_cons r0
  obtain ⟨rfl, rfl, rfl⟩ := trodAll_nil r1
  obtain rfl : args = #[v0, v1] := by cases args; simp_all
  obtain ⟨rfl, rfl⟩ := trodVars_none hV
  obtain ⟨a0, rfl, rfl, rfl, w0⟩ := open_string Tryz.underlying9 (hval 0 9 v0 rfl rfl) t0
  obtain ⟨a1, rfl, rfl, rfl, w1⟩ := open_int Tryz.underlying3 (hval 1 3 v1 rfl rfl) t1
  clear hA0 hval0
  simp only [List.append_nil] at hW'
  refine (walk a0 a1 w0 w1 m W hm ).mono fun e W' ⟨he, bel⟩ => ?_
  subst he
  exact ⟨_, rfl, _, _, _, [], _, [], hW', trodAll_mk1 (shut_bool Tryz.underlying4 _), (trodAll_cons_mk (shut_string Tryz.underlying9 w0) (trodAll_cons_mk (shut_int Tryz.underlying3 w1) trodAll_mk0)), rfl, bel.frame _, fun h => by cases h⟩

theorem said : Rows.urlSchemeRow.holds Tryz.pinned (OpenSpec.ofChange Rows.urlSchemeSpec) :=
  OpenClaim.holds_of_cond 6 Tryz.f6 rfl rfl rfl rfl rfl rfl rfl ⟨rfl, rfl, rfl, rfl, rfl⟩ rfl rfl rfl rfl rfl (by kernel_rfl) Tryz.func6 (by kernel_rfl)
    (of_decide_eq_true (by kernel_rfl)) (by unfold Func.isWrapper; first | (rw [if_pos (by decide +kernel)]; kernel_rfl) | (rw [if_neg (by decide +kernel)]; exact ⟨rfl, rfl⟩))
    (fun os started H enc _ F => by rw [OpenClaim.pre_eq_preRow]; exact lifted os started H enc F)

/-- No parameter wants a stand-in; the program's own looks are on. -/
theorem plain (f : FuncId) (fn : Func) (hf : Tryz.pinned.checked.prog.funcNamed Rows.urlSchemeRow.func = some f) (hfn : Tryz.pinned.checked.prog.funcs[f]? = some fn) :
    true = Tryz.pinned.checked.prog.looks [] ∧ ∀ (j : Nat) t, fn.params[j]? = some t → Tryz.pinned.checked.prog.wantsStandIn t = false := by
  obtain rfl : f = 6 := Option.some.inj ((show Tryz.prog.funcNamed Rows.urlSchemeRow.func = some 6 by kernel_rfl).symm.trans hf) |>.symm
  obtain rfl : fn = Tryz.f6 := (Option.some.inj (Tryz.func6.symm.trans hfn)).symm
  refine ⟨by kernel_rfl, fun j t ht => ?_⟩
  rw [Tryz.params6] at ht
  obtain rfl | rfl : t = 9 ∨ t = 3 := by simpa using Array.mem_of_getElem? ht
  · exact (show Tryz.prog.wantsStandIn 9 = false by kernel_rfl)
  · exact (show Tryz.prog.wantsStandIn 3 = false by kernel_rfl)

/-- The statement: the card. -/
theorem proved : Rows.UrlSchemeCardSaid :=
  Claim7.holds_tied_plain_at .later [] _ _ _ _ said (fun _ h => by cases h) (by kernel_rfl) (fun _ h => by cases h) urlScheme_row_tie rfl ⟨rfl, rfl⟩ (by kernel_rfl) rfl plain (by kernel_rfl)
#print axioms proved
end Go.Proofs.YtfdhhjigpboieaaGreatDoor.urlScheme
