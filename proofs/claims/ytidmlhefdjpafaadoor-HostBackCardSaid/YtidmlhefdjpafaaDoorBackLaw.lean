/-
  The law HostBack holds for every input: what is shown is parsed; what is parsed may be, and is shown as something that is parsed to it. No condition of its own; the card: the five listed tables lie as their texts lay them (tied).
-/
import Derived.Test.YtidmlhefdjpafaaDoorCards
import Derived.Test.YtidmlhefdjpafaaDoorTie
import Derived.WalkKit
import Derived.ProofKit
import Derived.OpenShut
import Derived.ShutString
import Derived.Test.YtidmlhefdjpafaaDoorHOpen
namespace Go.Proofs.YtidmlhefdjpafaaDoor.hostBack
open Go.ChangeShapes Go.WideShapes Go.ChangeAt Go.RowKit
open Go.ChangeMaps (open_string shut_string)
open Go.Shelf
open Go.Proofs.YtidmlhefdjpafaaDoor.Host
open Go.Proofs.YtidmlhefdjpafaaDoor.Six (arr RowAt zero8)
set_option linter.unusedSimpArgs false
set_option linter.unusedVariables false

theorem own : ownKnob Tryd.prog.godebug = none := by kernel_rfl

theorem show_bool (h : H) (h8 : h.p.length = 8) (b : Bool) (hb : mayH h = b) : ((⟨(showH h).toArray⟩ : ByteArray).toList.isEmpty) = !b := by
  rw [toList_ba]
  show (showH h).isEmpty = !b
  cases b
  · rw [show_none h hb]; rfl
  · have := (show_back h h8 hb).2.2.1
    cases e : showH h with
    | nil => exact absurd e this
    | cons c r => rfl
theorem back (h : H) (h8 : h.p.length = 8) (b : Bool) (hb : mayH h = b) : okH (showH h) = b ∧ (b = true → parH (showH h) = h) ∧ (showH h).length ≤ 100 := by
  cases b
  · rw [show_none h hb]
    exact ⟨ok_nil, (fun e => by cases e), by simp⟩
  · obtain ⟨h1, h2, _, h4⟩ := show_back h h8 hb
    exact ⟨h1, fun _ => h2, h4⟩
set_option maxRecDepth 100000 in
set_option maxHeartbeats 4000000 in
theorem walkLong (s : ByteArray) (h : H) (hs : decide ((300 : Int) < (s.size : Int)) = true ∨ (decide ((300 : Int) < (s.size : Int)) = false ∧ decide ((300 : Int) < (h.s.size : Int)) = true)) (m : Int) (w : World) (hm : Six.At m w) :
    Calls Tryd.prog 3 #[.string s, .agg h.cells] w fun e w' => e = .returned (.bool true) ∧ Below w.heap.size w w' := by
  have HB := Lib.hid (show Below w.heap.size w (w.alloc (.cells h.cells 24)) from (Below.refl _ w).alloc (Nat.le_refl _) _)
  have HR := Lib.hid (HostAt.new w h)
  have HM := Lib.hid (hm.later HB.out)
  have HC := Lib.hid (cells_at h)
  clear hm
  go_enter Tryd.func3, Tryd.ntmps3
  go_wp2_with fail
  generalize w.alloc (.cells h.cells 24) = W at HB HR HM ⊢
  refine (awake_calls m _ HM.out).mono ?_
  rintro e u1 ⟨rfl, hB1⟩
  have HB1 := Lib.hid (Ascii.below2 HB.out hB1)
  have hc1 := ((HR.out.later hB1).cell 1).trans HC.out.2.1
  clear hB1 HB HR HM HC
  rcases hs with h1 | ⟨h1, h2⟩
  all_goals
    go_wp2
    go_ret
    exact ⟨rfl, HB1.out⟩
set_option maxRecDepth 100000 in
set_option maxHeartbeats 8000000 in
theorem walkIn (s : ByteArray) (h : H) (h8 : h.p.length = 8) (d1 : decide ((300 : Int) < (s.size : Int)) = false) (d2 : decide ((300 : Int) < (h.s.size : Int)) = false) (hs1 : s.size ≤ 300) (hs2 : h.s.size ≤ 300) (b c : Bool) (hb : mayH h = b) (hc : okH s.data.toList = c) (m : Int) (w : World) (hm : Six.At m w) :
    Calls Tryd.prog 3 #[.string s, .agg h.cells] w fun e w' => e = .returned (.bool true) ∧ Below w.heap.size w w' := by
  have HB := Lib.hid (show Below w.heap.size w (w.alloc (.cells h.cells 24)) from (Below.refl _ w).alloc (Nat.le_refl _) _)
  have HR := Lib.hid (HostAt.new w h)
  have HM := Lib.hid (hm.later HB.out)
  have HC := Lib.hid (cells_at h)
  have HZ := Lib.hid (fun u : World => HostAt.new u none0)
  have H8 := Lib.hid h8
  obtain ⟨t, ht⟩ : ∃ t : ByteArray, (⟨(showH h).toArray⟩ : ByteArray) = t := ⟨_, rfl⟩
  have htl : t.data.toList = showH h := by rw [← ht]
  have htb := show_bool h h8 b hb
  rw [ht] at htb
  obtain ⟨k, hk⟩ : ∃ k, parH t.data.toList = k := ⟨_, rfl⟩
  have hbk := back h h8 b hb
  rw [← htl, hk] at hbk
  have hts : t.size ≤ 100 := hbk.2.2
  have K8 := Lib.hid (show k.p.length = 8 by rw [← hk]; exact parH_len _)
  obtain ⟨a, ha⟩ : ∃ a, parH s.data.toList = a := ⟨_, rfl⟩
  have ha8 : a.p.length = 8 := by rw [← ha]; exact parH_len _
  have has : a.s.size ≤ 300 := by rw [← ha]; exact par_size _ 300 hs1
  have A8 := Lib.hid ha8
  obtain ⟨y, hy⟩ : ∃ y : ByteArray, (⟨(showH a).toArray⟩ : ByteArray) = y := ⟨_, rfl⟩
  have hyl : y.data.toList = showH a := by rw [← hy]
  obtain ⟨ab, hab⟩ : ∃ ab, mayH a = ab := ⟨_, rfl⟩
  have hbk2 := back a ha8 ab hab
  obtain ⟨z, hz⟩ : ∃ z, parH y.data.toList = z := ⟨_, rfl⟩
  rw [← hyl, hz] at hbk2
  have Z8 := Lib.hid (show z.p.length = 8 by rw [← hz]; exact parH_len _)
  have hys : y.size ≤ 100 := hbk2.2.2
  have HEq := Lib.hid (show b = true → k = h from hbk.2.1)
  have HEz := Lib.hid (show c = true → ab = true ∧ z = a from fun e => by
    subst e
    have h1 := par_may _ hc
    rw [ha, hab] at h1
    exact ⟨h1, hbk2.2.1 h1⟩)
  have cShow := Lib.hid (fun u (hu : Six.At m u) => show_in h h8 (by omega) t ht m u hu)
  have cBack := Lib.hid (fun u (hu : Six.At m u) => parse_any t (by omega) k b hk hbk.1 m u hu)
  have cMay := Lib.hid (fun u (hu : Six.At m u) => may_any h h8 (by omega) b hb m u hu)
  have cPar := Lib.hid (fun u (hu : Six.At m u) => parse_any s (by omega) a c ha hc m u hu)
  have cShowA := Lib.hid (fun u (hu : Six.At m u) => show_in a ha8 (by omega) y hy m u hu)
  have cAgain := Lib.hid (fun u (hu : Six.At m u) => parse_any y (by omega) z ab hz hbk2.1 m u hu)
  have cMayA := Lib.hid (fun u (hu : Six.At m u) => may_any a ha8 (by omega) ab hab m u hu)
  clear hm h8 ht htl hk hbk hts ha ha8 has hy hyl hab hbk2 hz hys hb hc
  go_enter Tryd.func3, Tryd.ntmps3
  go_wp2_with fail
  generalize w.alloc (.cells h.cells 24) = W at HB HR HM ⊢
  refine (awake_calls m _ HM.out).mono ?_
  rintro e u1 ⟨rfl, hB1⟩
  have HB1 := Lib.hid (Ascii.below2 HB.out hB1)
  have HR1 := Lib.hid (HR.out.later hB1)
  have HM1 := Lib.hid (HM.out.later hB1)
  have hc1 := (HR1.out.cell 1).trans HC.out.2.1
  clear hB1 HB HR HM HC
  go_wp2_with ((with_reducible refine wp_load24 (o := ⟨some 29, .load 24 (.tmp 3), _, _, _, _⟩) ?_ (.tmp 3) ?_ w.heap.size ?_ h H8.out HR1.out ?_); (· rfl); (· rfl); (· rfl))
  clear hc1
  refine (cShow.out _ HM1.out).mono ?_
  rintro e u2 ⟨rfl, hB2⟩
  have HB2 := Lib.hid (Ascii.below2 HB1.out hB2)
  have HR2 := Lib.hid (HR1.out.later hB2)
  have HM2 := Lib.hid (HM1.out.later hB2)
  clear hB2 HB1 HR1 HM1 cShow
  go_wp2_with fail
  refine (cBack.out _ HM2.out).mono ?_
  rintro e u3 ⟨rfl, hB3⟩
  have hB3' := Ascii.below2 hB3 (below_new u3 k)
  have HB3 := Lib.hid (Ascii.below2 HB2.out hB3')
  have HR3 := Lib.hid (HR2.out.later hB3')
  have HM3 := Lib.hid (HM2.out.later hB3')
  have HK3 := Lib.hid (host_new u3 k)
  clear hB3 hB3' HB2 HR2 HM2 cBack
  go_wp2_with (first
    | refine wp_store24 (o := ⟨none, .store 24 (.tmp 7) (.tmp 34), _, _, _, _⟩) rfl (.tmp 7) (.tmp 34) rfl u3.heap.size rfl k rfl K8.out none0 rfl (HZ.out _) ?_
    | refine wp_load24 (o := ⟨some 36, .load 24 (.tmp 3), _, _, _, _⟩) rfl (.tmp 3) rfl w.heap.size rfl h H8.out HR3.out ?_)
  refine (cMay.out _ HM3.out).mono ?_
  rintro e u4 ⟨rfl, hB4⟩
  have HB4 := Lib.hid (Ascii.below2 HB3.out hB4)
  have HR4 := Lib.hid (HR3.out.later hB4)
  have HM4 := Lib.hid (HM3.out.later hB4)
  have HK4 := Lib.hid (HK3.out.later hB4)
  clear hB4 HB3 HR3 HM3 HK3 cMay
  go_wp2_with fail
  refine (cPar.out _ HM4.out).mono ?_
  rintro e u5 ⟨rfl, hB5⟩
  have hB5' := Ascii.below2 hB5 (below_new u5 a)
  have HB5 := Lib.hid (Ascii.below2 HB4.out hB5')
  have HR5 := Lib.hid (HR4.out.later hB5')
  have HM5 := Lib.hid (HM4.out.later hB5')
  have HK5 := Lib.hid (HK4.out.later hB5')
  have HA5 := Lib.hid (host_new u5 a)
  clear hB5 hB5' HB4 HR4 HM4 HK4 cPar
  go_wp2_with (first
    | refine wp_store24 (o := ⟨none, .store 24 (.tmp 10) (.tmp 41), _, _, _, _⟩) rfl (.tmp 10) (.tmp 41) rfl u5.heap.size rfl a rfl A8.out none0 rfl (HZ.out _) ?_
    | refine wp_load24 (o := ⟨some 44, .load 24 (.tmp 10), _, _, _, _⟩) rfl (.tmp 10) rfl u5.heap.size rfl a A8.out HA5.out ?_)
  refine (cShowA.out _ HM5.out).mono ?_
  rintro e u6 ⟨rfl, hB6⟩
  have HB6 := Lib.hid (Ascii.below2 HB5.out hB6)
  have HR6 := Lib.hid (HR5.out.later hB6)
  have HM6 := Lib.hid (HM5.out.later hB6)
  have HK6 := Lib.hid (HK5.out.later hB6)
  have HA6 := Lib.hid (HA5.out.later hB6)
  clear hB6 HB5 HR5 HM5 HK5 HA5 cShowA
  go_wp2_with fail
  refine (cAgain.out _ HM6.out).mono ?_
  rintro e u7 ⟨rfl, hB7⟩
  have hB7' := Ascii.below2 hB7 (below_new u7 z)
  have HB7 := Lib.hid (Ascii.below2 HB6.out hB7')
  have HR7 := Lib.hid (HR6.out.later hB7')
  have HM7 := Lib.hid (HM6.out.later hB7')
  have HK7 := Lib.hid (HK6.out.later hB7')
  have HA7 := Lib.hid (HA6.out.later hB7')
  have HZ7 := Lib.hid (host_new u7 z)
  clear hB7 hB7' HB6 HR6 HM6 HK6 HA6 cAgain
  have HN7 := Lib.hid (show HostAt (u7.alloc (.cells #[.int .i64 0, .string ⟨#[]⟩, .int .i64 0, .int .i64 0, .int .i64 0, .int .i64 0, .int .i64 0, .int .i64 0, .int .i64 0, .int .i64 0, .int .i64 0] 24)) u7.heap.size none0 from HZ.out u7)
  have HR8 := Lib.hid (show HostAt ((u7.alloc (.cells #[.int .i64 0, .string ⟨#[]⟩, .int .i64 0, .int .i64 0, .int .i64 0, .int .i64 0, .int .i64 0, .int .i64 0, .int .i64 0, .int .i64 0, .int .i64 0] 24)).setRow u7.heap.size z.cells) w.heap.size h from HR7.out)
  have HK8 := Lib.hid (show HostAt ((u7.alloc (.cells #[.int .i64 0, .string ⟨#[]⟩, .int .i64 0, .int .i64 0, .int .i64 0, .int .i64 0, .int .i64 0, .int .i64 0, .int .i64 0, .int .i64 0, .int .i64 0] 24)).setRow u7.heap.size z.cells) u3.heap.size k from HK7.out)
  have HA8 := Lib.hid (show HostAt ((u7.alloc (.cells #[.int .i64 0, .string ⟨#[]⟩, .int .i64 0, .int .i64 0, .int .i64 0, .int .i64 0, .int .i64 0, .int .i64 0, .int .i64 0, .int .i64 0, .int .i64 0] 24)).setRow u7.heap.size z.cells) u5.heap.size a from HA7.out)
  have HZ8 := Lib.hid (show HostAt ((u7.alloc (.cells #[.int .i64 0, .string ⟨#[]⟩, .int .i64 0, .int .i64 0, .int .i64 0, .int .i64 0, .int .i64 0, .int .i64 0, .int .i64 0, .int .i64 0, .int .i64 0] 24)).setRow u7.heap.size z.cells) u7.heap.size z from HZ7.out)
  cases c
  · cases b
    · go_wp2_with (((with_reducible refine wp_store24 (o := ⟨none, .store 24 (.tmp 12) (.tmp 47), _, _, _, _⟩) ?_ (.tmp 12) (.tmp 47) ?_ u7.heap.size ?_ z ?_ Z8.out none0 ?_ HN7.out ?_); (· rfl); (· rfl); (· rfl); (· rfl); (· rfl)))
      go_ret
      exact ⟨rfl, HB7.out⟩
    · obtain rfl := HEq.out rfl
      have heq := fun u => eq24 k k K8.out K8.out true (same_refl k) u
      go_wp2_with (first
        | ((with_reducible refine wp_store24 (o := ⟨none, .store 24 (.tmp 12) (.tmp 47), _, _, _, _⟩) ?_ (.tmp 12) (.tmp 47) ?_ u7.heap.size ?_ z ?_ Z8.out none0 ?_ HN7.out ?_); (· rfl); (· rfl); (· rfl); (· rfl); (· rfl))
        | ((with_reducible refine wp_load24 (o := ⟨some 62, .load 24 (.tmp 7), _, _, _, _⟩) ?_ (.tmp 7) ?_ u3.heap.size ?_ k K8.out HK8.out ?_); (· rfl); (· rfl); (· rfl))
        | ((with_reducible refine wp_load24 (o := ⟨some 63, .load 24 (.tmp 3), _, _, _, _⟩) ?_ (.tmp 3) ?_ w.heap.size ?_ k H8.out HR8.out ?_); (· rfl); (· rfl); (· rfl)))
      go_ret
      exact ⟨rfl, HB7.out⟩
  · obtain ⟨rfl, rfl⟩ := HEz.out rfl
    have heqz := fun u => eq24 z z Z8.out Z8.out true (same_refl z) u
    cases b
    · go_wp2_with (first
        | ((with_reducible refine wp_store24 (o := ⟨none, .store 24 (.tmp 12) (.tmp 47), _, _, _, _⟩) ?_ (.tmp 12) (.tmp 47) ?_ u7.heap.size ?_ z ?_ Z8.out none0 ?_ HN7.out ?_); (· rfl); (· rfl); (· rfl); (· rfl); (· rfl))
        | ((with_reducible refine wp_load24 (o := ⟨some 71, .load 24 (.tmp 10), _, _, _, _⟩) ?_ (.tmp 10) ?_ u5.heap.size ?_ z A8.out HA8.out ?_); (· rfl); (· rfl); (· rfl)))
      refine (cMayA.out _ HM7.out).mono ?_
      rintro e u8 ⟨rfl, hB8⟩
      have HA9 := Lib.hid (HA7.out.later hB8)
      have HZ9 := Lib.hid (HZ7.out.later hB8)
      have HB8 := Lib.hid (Ascii.below2 HB7.out hB8)
      clear hB8 HR8 HK8 HA8 HZ8 HA7 HZ7 HB7 HR7 HK7 HM7
      go_wp2_with (first
        | ((with_reducible refine wp_load24 (o := ⟨some 77, .load 24 (.tmp 10), _, _, _, _⟩) ?_ (.tmp 10) ?_ u5.heap.size ?_ z A8.out HA9.out ?_); (· rfl); (· rfl); (· rfl))
        | ((with_reducible refine wp_load24 (o := ⟨some 78, .load 24 (.tmp 12), _, _, _, _⟩) ?_ (.tmp 12) ?_ u7.heap.size ?_ z Z8.out HZ9.out ?_); (· rfl); (· rfl); (· rfl)))
      go_ret
      exact ⟨rfl, HB8.out⟩
    · obtain rfl := HEq.out rfl
      have heq := fun u => eq24 k k K8.out K8.out true (same_refl k) u
      go_wp2_with (first
        | ((with_reducible refine wp_store24 (o := ⟨none, .store 24 (.tmp 12) (.tmp 47), _, _, _, _⟩) ?_ (.tmp 12) (.tmp 47) ?_ u7.heap.size ?_ z ?_ Z8.out none0 ?_ HN7.out ?_); (· rfl); (· rfl); (· rfl); (· rfl); (· rfl))
        | ((with_reducible refine wp_load24 (o := ⟨some 62, .load 24 (.tmp 7), _, _, _, _⟩) ?_ (.tmp 7) ?_ u3.heap.size ?_ k K8.out HK8.out ?_); (· rfl); (· rfl); (· rfl))
        | ((with_reducible refine wp_load24 (o := ⟨some 63, .load 24 (.tmp 3), _, _, _, _⟩) ?_ (.tmp 3) ?_ w.heap.size ?_ k H8.out HR8.out ?_); (· rfl); (· rfl); (· rfl))
        | ((with_reducible refine wp_load24 (o := ⟨some 71, .load 24 (.tmp 10), _, _, _, _⟩) ?_ (.tmp 10) ?_ u5.heap.size ?_ z A8.out HA8.out ?_); (· rfl); (· rfl); (· rfl)))
      refine (cMayA.out _ HM7.out).mono ?_
      rintro e u8 ⟨rfl, hB8⟩
      have HA9 := Lib.hid (HA7.out.later hB8)
      have HZ9 := Lib.hid (HZ7.out.later hB8)
      have HB8 := Lib.hid (Ascii.below2 HB7.out hB8)
      clear hB8 HR8 HK8 HA8 HZ8 HA7 HZ7 HB7 HR7 HK7 HM7
      go_wp2_with (first
        | ((with_reducible refine wp_load24 (o := ⟨some 77, .load 24 (.tmp 10), _, _, _, _⟩) ?_ (.tmp 10) ?_ u5.heap.size ?_ z A8.out HA9.out ?_); (· rfl); (· rfl); (· rfl))
        | ((with_reducible refine wp_load24 (o := ⟨some 78, .load 24 (.tmp 12), _, _, _, _⟩) ?_ (.tmp 12) ?_ u7.heap.size ?_ z Z8.out HZ9.out ?_); (· rfl); (· rfl); (· rfl)))
      go_ret
      exact ⟨rfl, HB8.out⟩
theorem walk (s : ByteArray) (h : H) (h8 : h.p.length = 8) (w0 : s.size ≤ maxLen) (w1 : Six.wfH h) (m : Int) (w : World) (hm : Six.At m w) :
    Calls Tryd.prog 3 #[.string s, .agg h.cells] w fun e w' => e = .returned (.bool true) ∧ Below w.heap.size w w' := by
  by_cases h1 : s.size ≤ 300
  · by_cases h2 : h.s.size ≤ 300
    · exact walkIn s h h8 (decide_eq_false (by omega)) (decide_eq_false (by omega)) h1 h2 _ _ rfl rfl m w hm
    · exact walkLong s h (.inr ⟨decide_eq_false (by omega), decide_eq_true (by omega)⟩) m w hm
  · exact walkLong s h (.inl (decide_eq_true (by omega))) m w hm

/-! ### The row's step -/
theorem reads (os : Os) {H : Type} (enc : TypeId × Value → H) : (DataW.whole enc Tryd.prog ((Card.laidWorld os).forCall (fun _ _ => 0) ⟨#[], #[.string ByteArray.empty, .agg #[.int .i64 0, .string ByteArray.empty, .int .i64 0, .int .i64 0, .int .i64 0, .int .i64 0, .int .i64 0, .int .i64 0, .int .i64 0, .int .i64 0, .int .i64 0]], []⟩).memory Tryd.f3.params.toList Rows.hostBackSpec.vars false (#[.string ByteArray.empty, .agg #[.int .i64 0, .string ByteArray.empty, .int .i64 0, .int .i64 0, .int .i64 0, .int .i64 0, .int .i64 0, .int .i64 0, .int .i64 0, .int .i64 0, .int .i64 0]] : Array Value).toList 8).map (fun x => (x.1, x.2.1)) = some ([.lit (.string []), .agg [.lit (.int .i64 0), .lit (.string []), .lit (.int .i64 0), .agg [.lit (.int .i64 0), .lit (.int .i64 0), .lit (.int .i64 0), .lit (.int .i64 0), .lit (.int .i64 0), .lit (.int .i64 0), .lit (.int .i64 0), .lit (.int .i64 0)]]], []) := by kernel_rfl
set_option maxRecDepth 100000 in
theorem lifted (os : Os) (started : os.Started) (H : Type) (enc : TypeId × Value → H) (F : Stop.Interp) :
    ReturnsInHanded {} Tryd.checked os 3 .any ((OpenSpec.ofChange Rows.hostBackSpec).preRow enc Tryd.prog Tryd.f3 Rows.hostBackRow.domain false Rows.hostBackRow.laid) (((OpenSpec.ofChange Rows.hostBackSpec).at F).post enc Tryd.prog Tryd.f3 false true false false) := by
  obtain ⟨⟨x1, x2, x3⟩, hx, hx1⟩ := Option.map_eq_some_iff.1 (reads os enc)
  simp only [Prod.mk.injEq] at hx1
  obtain ⟨rfl, rfl⟩ := hx1
  refine returnsInHanded_of_row (C := Tryd.checked) (s := OpenSpec.ofChange Rows.hostBackSpec) own started (by kernel_rfl) Tryd.func3
    (witness_row_at (enc := enc) (C := Tryd.checked) false (Card.laidWorld os) #[.string ByteArray.empty, .agg #[.int .i64 0, .string ByteArray.empty, .int .i64 0, .int .i64 0, .int .i64 0, .int .i64 0, .int .i64 0, .int .i64 0, .int .i64 0, .int .i64 0, .int .i64 0]] rfl (by kernel_rfl) (by kernel_rfl) (by kernel_rfl)
      (OpenSpec.preRow_of_cond 8 hx (by kernel_rfl) (fun k hk => by cases hk) (by kernel_rfl) (Card.laid_met os _))) ?_
  intro W base args ds gs before hval0 hW _ _ _ hL hsh _
  obtain ⟨m, hmax⟩ := Card.maxLen_int hsh
  have hm : Six.At m W := ⟨hmax, Six.tab_of hL⟩
  have hval : ∀ (j : Nat) t v, Tryd.f3.params[j]? = some t → args[j]? = some v → Value.okWide Tryd.prog W .any base t v := hval0
  have hW' := hW
  obtain ⟨p, q, hA0, hV, rfl, hfz, hnd⟩ := hW
  have hA : DataW.TrodAll enc Tryd.prog W 0 (fun _ => true) true Tryd.f3.params.toList args.toList ds p := hA0
  rw [Tryd.params3] at hA hval
  obtain ⟨v0, vs0, d0, ds0, p0, q0, hargs0, rfl, rfl, t0, r0⟩ := trodAll_cons hA
  obtain ⟨v1, vs1, d1, ds1, p1, q1, hargs1, rfl, rfl, t1, r1⟩ := trodAll_cons r0
  obtain ⟨rfl, rfl, rfl⟩ := trodAll_nil r1
  obtain rfl : args = #[v0, v1] := by cases args; simp_all
  obtain ⟨rfl, rfl⟩ := trodVars_none hV
  obtain ⟨a0, rfl, rfl, rfl, w0⟩ := open_string Tryd.underlying9 (hval 0 9 v0 rfl rfl) t0
  obtain ⟨a1, l1, rfl, rfl, rfl, w1⟩ := Six.open_host (hval 1 24 v1 rfl rfl) t1
  clear hA0 hval0
  simp only [List.append_nil] at hW'
  refine (walk a0 a1 l1 w0 w1 m W hm).mono fun e W' ⟨he, hg⟩ => ?_
  subst he
  exact ⟨_, rfl, _, _, _, [], _, [], hW', trodAll_mk1 (shut_bool Tryd.underlying4 _), (trodAll_cons_mk (shut_string Tryd.underlying9 w0) (trodAll_cons_mk (Six.shut_host l1 w1) trodAll_mk0)), rfl, hg.frame _, fun h => by cases h⟩

theorem said : Rows.hostBackRow.holds Tryd.pinned (OpenSpec.ofChange Rows.hostBackSpec) :=
  OpenClaim.holds_of_cond 3 Tryd.f3 rfl rfl rfl rfl rfl rfl rfl ⟨rfl, rfl, rfl, rfl, rfl⟩ rfl rfl rfl rfl rfl (by kernel_rfl) Tryd.func3 (by kernel_rfl)
    (of_decide_eq_true (by kernel_rfl)) (by unfold Func.isWrapper; first | (rw [if_pos (by decide +kernel)]; kernel_rfl) | (rw [if_neg (by decide +kernel)]; exact ⟨rfl, rfl⟩))
    (fun os started H enc _ F => by rw [OpenClaim.pre_eq_preRow]; exact lifted os started H enc F)

/-- No parameter wants a stand-in; the program's own looks are on (a type switch over an interface's values). -/
theorem plain (f : FuncId) (fn : Func) (hf : Tryd.pinned.checked.prog.funcNamed Rows.hostBackRow.func = some f) (hfn : Tryd.pinned.checked.prog.funcs[f]? = some fn) :
    true = Tryd.pinned.checked.prog.looks [] ∧ ∀ (j : Nat) t, fn.params[j]? = some t → Tryd.pinned.checked.prog.wantsStandIn t = false := by
  obtain rfl : f = 3 := Option.some.inj ((show Tryd.prog.funcNamed Rows.hostBackRow.func = some 3 by kernel_rfl).symm.trans hf) |>.symm
  obtain rfl : fn = Tryd.f3 := (Option.some.inj (Tryd.func3.symm.trans hfn)).symm
  refine ⟨by kernel_rfl, fun j t ht => ?_⟩
  rw [Tryd.params3] at ht
  obtain rfl | rfl : t = 9 ∨ t = 24 := by simpa using Array.mem_of_getElem? ht
  · exact (show Tryd.prog.wantsStandIn 9 = false by kernel_rfl)
  · exact (show Tryd.prog.wantsStandIn 24 = false by kernel_rfl)

/-- The statement: the card. -/
theorem proved : Rows.HostBackCardSaid :=
  Claim7.holds_tied_plain_at .later [] _ _ _ _ said (fun _ h => by cases h) (by kernel_rfl) (fun _ h => by cases h) hostBack_row_tie rfl ⟨rfl, rfl⟩ (by kernel_rfl) rfl plain (by kernel_rfl)
#print axioms proved
end Go.Proofs.YtidmlhefdjpafaaDoor.hostBack
