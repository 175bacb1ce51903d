/-
  SixBack answers true for every input: what is shown is parsed; what is parsed may be, and is shown by at most one byte more. No condition of its own; the card lists five tables of Go's library, as the seat's text has them.
-/
import Derived.Test.YtgfhjigalefkmaaDoorCards
import Derived.Test.YtgfhjigalefkmaaDoorTie
import Derived.WalkKit
import Derived.ProofKit
import Derived.OpenShut
import Derived.ShutString
import Derived.Test.YtgfhjigalefkmaaDoorSOpen
namespace Go.Proofs.YtgfhjigalefkmaaDoor.sixBack
open Go.ChangeShapes Go.WideShapes Go.ChangeAt Go.RowKit
open Go.ChangeMaps (open_string shut_string)
open Go.Shelf
open Go.Proofs.YtgfhjigalefkmaaDoor.Six
set_option linter.unusedSimpArgs false
set_option linter.unusedVariables false

theorem own : ownKnob Tryd.prog.godebug = none := by kernel_rfl

theorem show_bool (p : List Int) (h8 : p.length = 8) (b : Bool) (hb : mayP p = b) : ((⟨(showS p).toArray⟩ : ByteArray).toList.isEmpty) = !b := by
  rw [ByteArray.toList_eq]
  have h := show_empty p h8
  rw [hb] at h
  cases b
  · show (showS p).isEmpty = true
    rw [h.2 rfl]; rfl
  · show (showS p).isEmpty = false
    cases e : showS p with
    | nil => have := h.1 e; cases this
    | cons c r => rfl
theorem parI_len (l : List UInt8) : (parI l).length = 8 := by
  cases h : parB l
  · unfold parI; rw [h]; rfl
  · exact (par_may l h).1
theorem back (p : List Int) (h8 : p.length = 8) (b : Bool) (hb : mayP p = b) : parB (showS p) = b ∧ (b = true → parI (showS p) = p) := by
  cases b
  · have := (show_empty p h8).2 hb
    rw [this]
    exact ⟨par_nil, fun h => by cases h⟩
  · have := par_show p h8 hb
    exact ⟨this.1, fun _ => this.2⟩
set_option maxRecDepth 100000 in
set_option maxHeartbeats 4000000 in
theorem walkLong (p : List Int) (s : ByteArray) (hs : decide ((300 : Int) < (s.size : Int)) = true) (m : Int) (w : World) (hm : At m w) :
    Calls Tryd.prog 4 #[.agg (arr p), .string s] w fun e w' => e = .returned (.bool true) ∧ Below w.heap.size w w' := by
  have HB := Lib.hid (show Below w.heap.size w (w.alloc (.cells (arr p) 22)) from (Below.refl _ w).alloc (Nat.le_refl _) _)
  have HM := Lib.hid (hm.later HB.out)
  clear hm
  go_enter Tryd.func4, Tryd.ntmps4
  go_wp2_with fail
  refine (awake_calls m _ HM.out).mono ?_
  rintro e u1 ⟨rfl, hB1⟩
  go_wp2
  go_ret
  exact ⟨rfl, Ascii.below2 HB.out hB1⟩
set_option maxRecDepth 100000 in
set_option maxHeartbeats 4000000 in
theorem walkIn (p : List Int) (h8 : p.length = 8) (s : ByteArray) (hs : decide ((300 : Int) < (s.size : Int)) = false) (hs2 : s.size ≤ 300) (b c : Bool) (hb : mayP p = b) (hc : parB s.data.toList = c) (m : Int) (w : World) (hm : At m w) :
    Calls Tryd.prog 4 #[.agg (arr p), .string s] w fun e w' => e = .returned (.bool true) ∧ Below w.heap.size w w' := by
  obtain ⟨t, ht⟩ : ∃ t : ByteArray, (⟨(showS p).toArray⟩ : ByteArray) = t := ⟨_, rfl⟩
  have etl : t.data.toList = showS p := by rw [← ht]
  have htb := show_bool p h8 b hb
  rw [ht] at htb
  obtain ⟨q, hq⟩ : ∃ q, parI t.data.toList = q := ⟨_, rfl⟩
  have hbk := back p h8 b hb
  rw [← etl, hq] at hbk
  have hq8 : q.length = 8 := by rw [← hq]; exact parI_len _
  obtain ⟨x, hx⟩ : ∃ x, parI s.data.toList = x := ⟨_, rfl⟩
  have hx8 : x.length = 8 := by rw [← hx]; exact parI_len _
  obtain ⟨y, hy⟩ : ∃ y : ByteArray, (⟨(showS x).toArray⟩ : ByteArray) = y := ⟨_, rfl⟩
  have hts : t.size ≤ 1000000 ∧ (b = true → t.size ≤ 39) := by
    have e : t.size = (showS p).length := by rw [← ht]; rfl
    cases b
    · have := (show_empty p h8).2 hb
      rw [e, this]
      exact ⟨by simp, fun h => by cases h⟩
    · have := show_len39 p h8 hb
      exact ⟨by omega, fun _ => by omega⟩
  have hmay : c = true → mayP x = true ∧ y.toList.isEmpty = false ∧ y.size ≤ s.size + 1 := fun h => by
    subst h
    have h1 := par_may _ hc
    rw [hx] at h1
    have h2 := show_bool x hx8 true h1.2.1
    rw [hy] at h2
    refine ⟨h1.2.1, h2, ?_⟩
    have e : y.size = (showS x).length := by rw [← hy]; rfl
    have e2 : s.data.toList.length = s.size := rfl
    omega
  have HB := Lib.hid (show Below w.heap.size w (w.alloc (.cells (arr p) 22)) from (Below.refl _ w).alloc (Nat.le_refl _) _)
  have HR := Lib.hid (RowAt.new w p)
  have HM := Lib.hid (hm.later HB.out)
  have H8 := Lib.hid h8
  have HQ8 := Lib.hid hq8
  have HX8 := Lib.hid hx8
  have cShow := Lib.hid (fun u (hu : At m u) => show_any p h8 t ht m u hu)
  have cBack := Lib.hid (fun u (hu : At m u) => parse_any t hts.1 q b hq hbk.1 m u hu)
  have cMay := Lib.hid (fun u => may_any p h8 b hb u)
  have cPar := Lib.hid (fun u (hu : At m u) => parse_any s (by omega) x c hx hc m u hu)
  have cShowX := Lib.hid (fun u (hu : At m u) => show_any x hx8 y hy m u hu)
  have HEq := Lib.hid (show b = true → q = p ∧ t.size ≤ 39 from fun h => ⟨hbk.2 h, hts.2 h⟩)
  have HMx := Lib.hid hmay
  have HZ := Lib.hid (fun u : World => RowAt.new u zero8)
  clear h8 hq8 hx8 hm ht etl hq hbk hx hy hts hmay hb hc
  go_enter Tryd.func4, Tryd.ntmps4
  go_wp2_with fail
  generalize w.alloc (.cells (arr p) 22) = W at HB HR HM ⊢
  refine (awake_calls m _ HM.out).mono ?_
  rintro e u1 ⟨rfl, hB1⟩
  have HR1 := Lib.hid (HR.out.later hB1)
  have HB1 := Lib.hid (Ascii.below2 HB.out hB1)
  have HM1 := Lib.hid (HM.out.later hB1)
  clear hB1 HR HB HM
  go_wp2_with (refine wp_load22 rfl _ rfl w.heap.size rfl p H8.out HR1.out ?_)
  refine (cShow.out _ HM1.out).mono ?_
  rintro e u2 ⟨rfl, hB2⟩
  have HR2 := Lib.hid (HR1.out.later hB2)
  have HB2 := Lib.hid (Ascii.below2 HB1.out hB2)
  have HM2 := Lib.hid (HM1.out.later hB2)
  clear hB2 HR1 HB1 HM1 cShow
  go_wp2_with fail
  refine (cBack.out _ HM2.out).mono ?_
  rintro e u3 ⟨rfl, hB3⟩
  have hBn : Below u3.heap.size u3 ((u3.alloc (.cells (arr zero8) 22)).setRow u3.heap.size (arr q)) := below_setRow ((Below.refl _ u3).alloc (Nat.le_refl _) _) (Nat.le_refl _) _
  have HRp := Lib.hid (show RowAt ((u3.alloc (.cells (arr zero8) 22)).setRow u3.heap.size (arr q)) w.heap.size p from (HR2.out.later hB3).later hBn)
  have HRq := Lib.hid ((HZ.out u3).row q)
  have HB3 := Lib.hid (Ascii.below3 HB2.out hB3 hBn)
  have HM3 := Lib.hid ((HM2.out.later hB3).later hBn)
  clear hB3 hBn HR2 HB2 HM2 cBack
  go_wp2_with (first
    | refine wp_store22 rfl _ _ rfl u3.heap.size rfl q rfl HQ8.out zero8 rfl (HZ.out _) ?_
    | refine wp_load22 rfl _ rfl w.heap.size rfl p H8.out HRp.out ?_)
  refine (cMay.out _).mono ?_
  rintro e u4 ⟨rfl, hB4⟩
  have HRp4 := Lib.hid (HRp.out.later hB4)
  have HRq4 := Lib.hid (HRq.out.later hB4)
  have HB4 := Lib.hid (Ascii.below2 HB3.out hB4)
  have HM4 := Lib.hid (HM3.out.later hB4)
  clear hB4 HRp HRq HB3 HM3 cMay
  go_wp2_with fail
  refine (cPar.out _ HM4.out).mono ?_
  rintro e u5 ⟨rfl, hB5⟩
  have hBn : Below u5.heap.size u5 ((u5.alloc (.cells (arr zero8) 22)).setRow u5.heap.size (arr x)) := below_setRow ((Below.refl _ u5).alloc (Nat.le_refl _) _) (Nat.le_refl _) _
  have HRp5 := Lib.hid ((HRp4.out.later hB5).later hBn)
  have HRq5 := Lib.hid ((HRq4.out.later hB5).later hBn)
  have HRx5 := Lib.hid ((HZ.out u5).row x)
  have HB5 := Lib.hid (Ascii.below3 HB4.out hB5 hBn)
  have HM5 := Lib.hid ((HM4.out.later hB5).later hBn)
  clear hB5 hBn HRp4 HRq4 HB4 HM4 cPar
  go_wp2_with (first
    | refine wp_store22 rfl _ _ rfl u5.heap.size rfl x rfl HX8.out zero8 rfl (HZ.out _) ?_
    | refine wp_load22 rfl _ rfl u5.heap.size rfl x HX8.out HRx5.out ?_)
  refine (cShowX.out _ HM5.out).mono ?_
  rintro e u6 ⟨rfl, hB6⟩
  have HRp6 := Lib.hid (HRp5.out.later hB6)
  have HRq6 := Lib.hid (HRq5.out.later hB6)
  have HRx6 := Lib.hid (HRx5.out.later hB6)
  have HB6 := Lib.hid (Ascii.below2 HB5.out hB6)
  clear hB6 HRp5 HRq5 HRx5 HB5 HM5 cShowX HZ
  cases b
  · cases c
    · go_wp2
      go_ret
      exact ⟨rfl, HB6.out⟩
    · obtain ⟨m1, m2, m3⟩ := HMx.out rfl
      have m4 : decide ((y.size : Int) ≤ (s.size : Int) + 1) = true := decide_eq_true (by omega)
      have HMy := Lib.hid m1
      clear m1 m3
      go_wp2_with (first
        | ((with_reducible refine wp_load22g (o := ⟨some 51, .load 22 (.tmp 7), _, _, _, _⟩) ?_ (.tmp 7) ?_ u3.heap.size ?_ q HQ8.out HRq6.out ?_); (· rfl); (· rfl); (· rfl))
        | ((with_reducible refine wp_load22g (o := ⟨some 52, .load 22 (.tmp 2), _, _, _, _⟩) ?_ (.tmp 2) ?_ w.heap.size ?_ p H8.out HRp6.out ?_); (· rfl); (· rfl); (· rfl))
        | ((with_reducible refine wp_load22g (o := ⟨some 65, .load 22 (.tmp 10), _, _, _, _⟩) ?_ (.tmp 10) ?_ u5.heap.size ?_ x HX8.out HRx6.out ?_); (· rfl); (· rfl); (· rfl)))
      refine (may_any x HX8.out true HMy.out _).mono ?_
      rintro e u7 ⟨rfl, hB7⟩
      go_wp2
      go_ret
      exact ⟨rfl, Ascii.below2 HB6.out hB7⟩
  · obtain ⟨rfl, h39⟩ := HEq.out rfl
    have d39 : decide ((t.size : Int) ≤ 39) = true := decide_eq_true (by omega)
    have heq : ∀ u, (Op.equalIn 10000 22 (.agg (arr q)) (.agg (arr q))).run Tryd.prog u = .ok true u := fun u => eq22 q q HQ8.out HQ8.out true (by simp) u
    cases c
    · go_wp2_with (first
        | ((with_reducible refine wp_load22g (o := ⟨some 51, .load 22 (.tmp 7), _, _, _, _⟩) ?_ (.tmp 7) ?_ u3.heap.size ?_ q HQ8.out HRq6.out ?_); (· rfl); (· rfl); (· rfl))
        | ((with_reducible refine wp_load22g (o := ⟨some 52, .load 22 (.tmp 2), _, _, _, _⟩) ?_ (.tmp 2) ?_ w.heap.size ?_ q H8.out HRp6.out ?_); (· rfl); (· rfl); (· rfl)))
      go_ret
      exact ⟨rfl, HB6.out⟩
    · obtain ⟨m1, m2, m3⟩ := HMx.out rfl
      have m4 : decide ((y.size : Int) ≤ (s.size : Int) + 1) = true := decide_eq_true (by omega)
      have HMy := Lib.hid m1
      clear m1 m3
      go_wp2_with (first
        | ((with_reducible refine wp_load22g (o := ⟨some 51, .load 22 (.tmp 7), _, _, _, _⟩) ?_ (.tmp 7) ?_ u3.heap.size ?_ q HQ8.out HRq6.out ?_); (· rfl); (· rfl); (· rfl))
        | ((with_reducible refine wp_load22g (o := ⟨some 52, .load 22 (.tmp 2), _, _, _, _⟩) ?_ (.tmp 2) ?_ w.heap.size ?_ q H8.out HRp6.out ?_); (· rfl); (· rfl); (· rfl))
        | ((with_reducible refine wp_load22g (o := ⟨some 65, .load 22 (.tmp 10), _, _, _, _⟩) ?_ (.tmp 10) ?_ u5.heap.size ?_ x HX8.out HRx6.out ?_); (· rfl); (· rfl); (· rfl)))
      refine (may_any x HX8.out true HMy.out _).mono ?_
      rintro e u7 ⟨rfl, hB7⟩
      go_wp2
      go_ret
      exact ⟨rfl, Ascii.below2 HB6.out hB7⟩
theorem walk (p : List Int) (h8 : p.length = 8) (s : ByteArray) (w0 : ∀ z ∈ p, (Lit.int .i64 z).wf = true) (w1 : s.size ≤ maxLen) (m : Int) (w : World) (hm : At m w) :
    Calls Tryd.prog 4 #[.agg (arr p), .string s] w fun e w' => e = .returned (.bool true) ∧ Below w.heap.size w w' := by
  by_cases h : s.size ≤ 300
  · exact walkIn p h8 s (decide_eq_false (by omega)) h _ _ rfl rfl m w hm
  · exact walkLong p s (decide_eq_true (by omega)) m w hm

/-! ### The row's step -/
theorem reads (os : Os) {H : Type} (enc : TypeId × Value → H) : (DataW.whole enc Tryd.prog ((Card.laidWorld os).forCall (fun _ _ => 0) ⟨#[], #[.agg #[.int .i64 0, .int .i64 0, .int .i64 0, .int .i64 0, .int .i64 0, .int .i64 0, .int .i64 0, .int .i64 0], .string ByteArray.empty], []⟩).memory Tryd.f4.params.toList Rows.sixBackSpec.vars false (#[.agg #[.int .i64 0, .int .i64 0, .int .i64 0, .int .i64 0, .int .i64 0, .int .i64 0, .int .i64 0, .int .i64 0], .string ByteArray.empty] : Array Value).toList 8).map (fun x => (x.1, x.2.1)) = some ([.agg [.lit (.int .i64 0), .lit (.int .i64 0), .lit (.int .i64 0), .lit (.int .i64 0), .lit (.int .i64 0), .lit (.int .i64 0), .lit (.int .i64 0), .lit (.int .i64 0)], .lit (.string [])], []) := by kernel_rfl
set_option maxRecDepth 100000 in
theorem lifted (os : Os) (started : os.Started) (H : Type) (enc : TypeId × Value → H) (F : Stop.Interp) :
    ReturnsInHanded {} Tryd.checked os 4 .any ((OpenSpec.ofChange Rows.sixBackSpec).preRow enc Tryd.prog Tryd.f4 Rows.sixBackRow.domain false Rows.sixBackRow.laid) (((OpenSpec.ofChange Rows.sixBackSpec).at F).post enc Tryd.prog Tryd.f4 false true false false) := by
  obtain ⟨⟨x1, x2, x3⟩, hx, hx1⟩ := Option.map_eq_some_iff.1 (reads os enc)
  simp only [Prod.mk.injEq] at hx1
  obtain ⟨rfl, rfl⟩ := hx1
  refine returnsInHanded_of_row (C := Tryd.checked) (s := OpenSpec.ofChange Rows.sixBackSpec) own started (by kernel_rfl) Tryd.func4
    (witness_row_at (enc := enc) (C := Tryd.checked) false (Card.laidWorld os) #[.agg #[.int .i64 0, .int .i64 0, .int .i64 0, .int .i64 0, .int .i64 0, .int .i64 0, .int .i64 0, .int .i64 0], .string ByteArray.empty] rfl (by kernel_rfl) (by kernel_rfl) (by kernel_rfl)
      (OpenSpec.preRow_of_cond 8 hx (by kernel_rfl) (fun k hk => by cases hk) (by kernel_rfl) (Card.laid_met os _))) ?_
  intro W base args ds gs before hval0 hW _ _ _ hL hsh _
  obtain ⟨m, hmax⟩ := Card.maxLen_int hsh
  have hm : At m W := ⟨hmax, tab_of hL⟩
  have hval : ∀ (j : Nat) t v, Tryd.f4.params[j]? = some t → args[j]? = some v → Value.okWide Tryd.prog W .any base t v := hval0
  have hW' := hW
  obtain ⟨p, q, hA0, hV, rfl, hfz, hnd⟩ := hW
  have hA : DataW.TrodAll enc Tryd.prog W 0 (fun _ => true) true Tryd.f4.params.toList args.toList ds p := hA0
  rw [Tryd.params4] at hA hval
  obtain ⟨v0, vs0, d0, ds0, p0, q0, hargs0, rfl, rfl, t0, r0⟩ := trodAll_cons hA
  obtain ⟨v1, vs1, d1, ds1, p1, q1, hargs1, rfl, rfl, t1, r1⟩ := trodAll_cons r0
  obtain ⟨rfl, rfl, rfl⟩ := trodAll_nil r1
  obtain rfl : args = #[v0, v1] := by cases args; simp_all
  obtain ⟨rfl, rfl⟩ := trodVars_none hV
  obtain ⟨a0, l0, rfl, rfl, rfl, w0⟩ := open_row8 (hval 0 22 v0 rfl rfl) t0
  obtain ⟨a1, rfl, rfl, rfl, w1⟩ := open_string Tryd.underlying9 (hval 1 9 v1 rfl rfl) t1
  clear hA0 hval0
  simp only [List.append_nil] at hW'
  refine (walk a0 l0 a1 w0 w1 m W hm).mono fun e W' ⟨he, hg⟩ => ?_
  subst he
  exact ⟨_, rfl, _, _, _, [], _, [], hW', trodAll_mk1 (shut_bool Tryd.underlying4 _), (trodAll_cons_mk (shut_row8 l0 w0) (trodAll_cons_mk (shut_string Tryd.underlying9 w1) trodAll_mk0)), rfl, hg.frame _, fun h => by cases h⟩

theorem said : Rows.sixBackRow.holds Tryd.pinned (OpenSpec.ofChange Rows.sixBackSpec) :=
  OpenClaim.holds_of_cond 4 Tryd.f4 rfl rfl rfl rfl rfl rfl rfl ⟨rfl, rfl, rfl, rfl, rfl⟩ rfl rfl rfl rfl rfl (by kernel_rfl) Tryd.func4 (by kernel_rfl)
    (of_decide_eq_true (by kernel_rfl)) (by unfold Func.isWrapper; first | (rw [if_pos (by decide +kernel)]; kernel_rfl) | (rw [if_neg (by decide +kernel)]; exact ⟨rfl, rfl⟩))
    (fun os started H enc _ F => by rw [OpenClaim.pre_eq_preRow]; exact lifted os started H enc F)

/-- No parameter wants a stand-in; the program's own looks are off. -/
theorem plain (f : FuncId) (fn : Func) (hf : Tryd.pinned.checked.prog.funcNamed Rows.sixBackRow.func = some f) (hfn : Tryd.pinned.checked.prog.funcs[f]? = some fn) :
    false = Tryd.pinned.checked.prog.looks [] ∧ ∀ (j : Nat) t, fn.params[j]? = some t → Tryd.pinned.checked.prog.wantsStandIn t = false := by
  obtain rfl : f = 4 := Option.some.inj ((show Tryd.prog.funcNamed Rows.sixBackRow.func = some 4 by kernel_rfl).symm.trans hf) |>.symm
  obtain rfl : fn = Tryd.f4 := (Option.some.inj (Tryd.func4.symm.trans hfn)).symm
  refine ⟨by kernel_rfl, fun j t ht => ?_⟩
  rw [Tryd.params4] at ht
  obtain rfl | rfl : t = 22 ∨ t = 9 := by simpa using Array.mem_of_getElem? ht
  · exact (show Tryd.prog.wantsStandIn 22 = false by kernel_rfl)
  · exact (show Tryd.prog.wantsStandIn 9 = false by kernel_rfl)

/-- The statement: the card. -/
theorem proved : Rows.SixBackCardSaid :=
  Claim7.holds_tied_plain_at .later [] _ _ _ _ said (fun _ h => by cases h) (by kernel_rfl) (fun _ h => by cases h) sixBack_row_tie rfl ⟨rfl, rfl⟩ (by kernel_rfl) rfl plain (by kernel_rfl)
#print axioms proved
end Go.Proofs.YtgfhjigalefkmaaDoor.sixBack
