/-
  The law HostLocal holds for every input: a name with .localhost behind it is one's own, one with a letter more behind is not. No condition of its own; the card: the five listed tables lie as their texts lay them (tied).
-/
import Derived.Test.YtidmlhefdjpafaaDoorCards
import Derived.Test.YtidmlhefdjpafaaDoorTie
import Derived.WalkKit
import Derived.ProofKit
import Derived.OpenShut
import Derived.ShutString
import Derived.Test.YtidmlhefdjpafaaDoorHOpen
namespace Go.Proofs.YtidmlhefdjpafaaDoor.hostLocal
open Go.ChangeShapes Go.WideShapes Go.ChangeAt Go.RowKit
open Go.ChangeMaps (open_string shut_string)
open Go.Shelf
open Go.Proofs.YtidmlhefdjpafaaDoor.Host
open Go.Proofs.YtidmlhefdjpafaaDoor.Six (arr RowAt zero8)
set_option linter.unusedSimpArgs false
set_option linter.unusedVariables false

theorem own : ownKnob Tryd.prog.godebug = none := by kernel_rfl

theorem lower_app (a b : List UInt8) : Ascii.lower (a ++ b) = Ascii.lower a ++ Ascii.lower b := by unfold Ascii.lower; rw [List.map_append]
theorem lower_len (a : List UInt8) : (Ascii.lower a).length = a.length := by unfold Ascii.lower; rw [List.length_map]
theorem low91 : Ascii.lowB 91 = 91 := by decide +kernel
theorem brk_low (l b : List UInt8) (hd : domB (Ascii.lower l) = true) : brkB (l ++ b) = false := by
  cases e : brkB (l ++ b)
  · rfl
  · obtain ⟨r, hr⟩ := brk_first _ e
    cases l with
    | nil => exact absurd rfl (dom_ne _ hd)
    | cons c l =>
      obtain rfl : c = 91 := (List.cons.inj hr).1
      refine absurd ?_ (dom_no _ hd)
      unfold Ascii.lower
      rw [List.map_cons, low91]
      simp
theorem ok_tail (l b : List UInt8) (hl : l.length ≤ 80) (hd : domB (Ascii.lower l) = true) (hb : (46 : UInt8) ∉ b) (hn : namedL b = true) (hlow : Ascii.lower b = b) (hp : Deci.plainB b = false) (hlen : b.length ≤ 10) :
    okH (l ++ 46 :: b) = true ∧ parH (l ++ 46 :: b) = ⟨1, ⟨(Ascii.lower l ++ 46 :: b).toArray⟩, 0, zero8⟩ := by
  obtain ⟨d1, d2, d3, d4⟩ := (dom_iff _).1 hd
  have h1 := brk_low l (46 :: b) hd
  have h2 : Four.lookB (l ++ 46 :: b) = false := by unfold Four.lookB; rw [Four.aft_dot _ _ hb, hp]
  have h2' : Four.lookB (Ascii.lower l ++ 46 :: b) = false := by unfold Four.lookB; rw [Four.aft_dot _ _ hb, hp]
  have h3 : Ascii.lower (l ++ 46 :: b) = Ascii.lower l ++ 46 :: b := by
    rw [lower_app, show (46 :: b) = [46] ++ b from rfl, lower_app, hlow]
    rfl
  have h4 : domB (Ascii.lower l ++ 46 :: b) = true := by
    rw [dom_iff]
    refine ⟨?_, ?_, h2', ?_⟩
    · rw [List.length_append, lower_len, List.length_cons]; omega
    · rw [← h3, Ascii.lower_lower]
    · rw [parts_behind b hb, d4, hn]; rfl
  have ho : okH (l ++ 46 :: b) = true := by unfold okH; rw [h1, h2, h3, h4]; rfl
  exact ⟨ho, by unfold parH; rw [ho, h1, h2, h3]; rfl⟩
theorem loc_may (x b : List UInt8) (h : okH b = true) : mayH (parH b) = true := par_may b h
theorem suf_app (x b : List UInt8) : Lib.hasSuffix (x ++ b) b = true := by
  unfold Lib.hasSuffix
  rw [List.isSuffixOf_iff_suffix]
  exact List.suffix_append x b
theorem suf_last (x : List UInt8) : Lib.hasSuffix (x ++ [120]) (46 :: loc9) = false := by
  cases e : Lib.hasSuffix (x ++ [120]) (46 :: loc9)
  · rfl
  · unfold Lib.hasSuffix at e
    rw [List.isSuffixOf_iff_suffix] at e
    obtain ⟨t, ht⟩ := e
    have h1 := congrArg List.getLast? ht
    rw [List.getLast?_append] at h1
    simp [loc9] at h1
theorem eq_last (x : List UInt8) : ((x ++ [120]) == loc9) = false := by
  refine beq_false_of_ne fun e => ?_
  have h1 := congrArg List.getLast? e
  simp [loc9] at h1
/-- What HostLocal asks. -/
theorem own_ok (l : List UInt8) (hl : l.length ≤ 80) (hd : domB (Ascii.lower l) = true) : okH (l ++ 46 :: loc9) = true ∧ localH (parH (l ++ 46 :: loc9)) = true := by
  obtain ⟨h1, h2⟩ := ok_tail l loc9 hl hd (by decide) (by decide +kernel) (by decide +kernel) (by decide +kernel) (by decide)
  refine ⟨h1, ?_⟩
  have hm := par_may _ h1
  unfold localH
  rw [if_pos hm, h2]
  show ((Ascii.lower l ++ 46 :: loc9 == loc9) || Lib.hasSuffix (Ascii.lower l ++ 46 :: loc9) (46 :: loc9)) = true
  rw [suf_app, Bool.or_true]
theorem other_ok (l : List UInt8) (hl : l.length ≤ 80) (hd : domB (Ascii.lower l) = true) : okH (l ++ 46 :: (loc9 ++ [120])) = true ∧ localH (parH (l ++ 46 :: (loc9 ++ [120]))) = false := by
  obtain ⟨h1, h2⟩ := ok_tail l (loc9 ++ [120]) hl hd (by decide) (by decide +kernel) (by decide +kernel) (by decide +kernel) (by decide)
  refine ⟨h1, ?_⟩
  have hm := par_may _ h1
  unfold localH
  rw [if_pos hm, h2]
  show ((Ascii.lower l ++ 46 :: (loc9 ++ [120]) == loc9) || Lib.hasSuffix (Ascii.lower l ++ 46 :: (loc9 ++ [120])) (46 :: loc9)) = false
  rw [show Ascii.lower l ++ 46 :: (loc9 ++ [120]) = (Ascii.lower l ++ 46 :: loc9) ++ [120] by simp, suf_last, eq_last]
  rfl
set_option maxRecDepth 100000 in
set_option maxHeartbeats 4000000 in
theorem walkLong (s : ByteArray) (d1 : decide ((80 : Int) < (s.size : Int)) = true) (m : Int) (w : World) (hm : Six.At m w) :
    Calls Tryd.prog 7 #[.string s] w fun e w' => e = .returned (.bool true) ∧ Below w.heap.size w w' := by
  have HM := Lib.hid hm
  clear hm
  go_enter Tryd.func7, Tryd.ntmps7
  go_wp2_with fail
  refine (awake_calls m _ HM.out).mono ?_
  rintro e u1 ⟨rfl, hB1⟩
  go_wp2
  go_ret
  exact ⟨rfl, hB1⟩
set_option maxRecDepth 100000 in
set_option maxHeartbeats 4000000 in
theorem walkIn (s : ByteArray) (d1 : decide ((80 : Int) < (s.size : Int)) = false) (hs : s.size ≤ 80) (m : Int) (w : World) (hm : Six.At m w) :
    Calls Tryd.prog 7 #[.string s] w fun e w' => e = .returned (.bool true) ∧ Below w.heap.size w w' := by
  have HM := Lib.hid hm
  obtain ⟨h, hh⟩ : ∃ h, parH s.data.toList = h := ⟨_, rfl⟩
  obtain ⟨b, hb⟩ : ∃ b, okH s.data.toList = b := ⟨_, rfl⟩
  have cP := Lib.hid (fun u (hu : Six.At m u) => parse_any s (by omega) h b hh hb m u hu)
  have H8 := Lib.hid (show h.p.length = 8 by rw [← hh]; exact parH_len _)
  have HW := Lib.hid (show b = false ∨ (b = true ∧ (h.k != 1) = true) ∨ (b = true ∧ (h.k != 1) = false ∧ domB (Ascii.lower s.data.toList) = true) from by
    cases b
    · exact .inl rfl
    · rcases par_ways _ hb with ⟨_, _, e⟩ | ⟨_, _, _, e⟩ | ⟨_, _, hd, e⟩
      · exact .inr (.inl ⟨rfl, by rw [← hh, e]; rfl⟩)
      · exact .inr (.inl ⟨rfl, by rw [← hh, e]; rfl⟩)
      · exact .inr (.inr ⟨rfl, by rw [← hh, e]; rfl, hd⟩))
  clear hm hh hb
  go_enter Tryd.func7, Tryd.ntmps7
  go_wp2_with fail
  refine (awake_calls m _ HM.out).mono ?_
  rintro e u1 ⟨rfl, hB1⟩
  have HB1 := Lib.hid hB1
  have HM1 := Lib.hid (HM.out.later hB1)
  clear hB1 HM
  go_wp2_with fail
  refine (cP.out _ HM1.out).mono ?_
  rintro e u2 ⟨rfl, hB2⟩
  have hB2' := Ascii.below2 hB2 (below_new u2 h)
  have HB2 := Lib.hid (Ascii.below2 HB1.out hB2')
  have HM2 := Lib.hid (show Six.At m (((u2.alloc (.cells #[.int .i64 0, .string ⟨#[]⟩, .int .i64 0, .int .i64 0, .int .i64 0, .int .i64 0, .int .i64 0, .int .i64 0, .int .i64 0, .int .i64 0, .int .i64 0] 24)).setRow u2.heap.size h.cells)) from HM1.out.later hB2')
  have HN2 := Lib.hid (show HostAt (u2.alloc (.cells #[.int .i64 0, .string ⟨#[]⟩, .int .i64 0, .int .i64 0, .int .i64 0, .int .i64 0, .int .i64 0, .int .i64 0, .int .i64 0, .int .i64 0, .int .i64 0] 24)) u2.heap.size none0 from HostAt.new u2 none0)
  have hc0 : (((u2.alloc (.cells #[.int .i64 0, .string ⟨#[]⟩, .int .i64 0, .int .i64 0, .int .i64 0, .int .i64 0, .int .i64 0, .int .i64 0, .int .i64 0, .int .i64 0, .int .i64 0] 24)).setRow u2.heap.size h.cells)).cell? ⟨u2.heap.size, 0, none⟩ = some (.int .i64 h.k) := (HostAt.cell (host_new u2 h) 0).trans (cells_at h).1
  clear hB2 hB2' HB1 HM1 cP
  rcases HW.out with rfl | ⟨rfl, hk⟩ | ⟨rfl, hk, hd⟩
  · clear hc0
    go_wp2_with ((with_reducible refine wp_store24 (o := ⟨none, .store 24 (.tmp 4) (.tmp 22), _, _, _, _⟩) ?_ (.tmp 4) (.tmp 22) ?_ u2.heap.size ?_ h ?_ H8.out none0 ?_ HN2.out ?_); (· rfl); (· rfl); (· rfl); (· rfl); (· rfl))
    go_ret
    exact ⟨rfl, HB2.out⟩
  · go_wp2_with ((with_reducible refine wp_store24 (o := ⟨none, .store 24 (.tmp 4) (.tmp 22), _, _, _, _⟩) ?_ (.tmp 4) (.tmp 22) ?_ u2.heap.size ?_ h ?_ H8.out none0 ?_ HN2.out ?_); (· rfl); (· rfl); (· rfl); (· rfl); (· rfl))
    go_ret
    exact ⟨rfl, HB2.out⟩
  · obtain ⟨o1, o2⟩ := own_ok s.data.toList hs hd
    obtain ⟨p1, p2⟩ := other_ok s.data.toList hs hd
    obtain ⟨x, hx⟩ : ∃ x : ByteArray, s ++ (⟨#[46, 108, 111, 99, 97, 108, 104, 111, 115, 116]⟩ : ByteArray) = x := ⟨_, rfl⟩
    obtain ⟨y, hy⟩ : ∃ y : ByteArray, s ++ (⟨#[46, 108, 111, 99, 97, 108, 104, 111, 115, 116, 120]⟩ : ByteArray) = y := ⟨_, rfl⟩
    have lx : x.data.toList = s.data.toList ++ 46 :: loc9 := by rw [← hx]; simp [loc9]
    have ly : y.data.toList = s.data.toList ++ 46 :: (loc9 ++ [120]) := by rw [← hy]; simp [loc9]
    have sx : x.size ≤ 200 := by
      have e1 : x.size = x.data.toList.length := rfl
      have e2 : s.data.toList.length = s.size := rfl
      rw [e1, lx, List.length_append]; simp [loc9]; omega
    have sy : y.size ≤ 200 := by
      have e1 : y.size = y.data.toList.length := rfl
      have e2 : s.data.toList.length = s.size := rfl
      rw [e1, ly, List.length_append]; simp [loc9]; omega
    obtain ⟨hX, ehX⟩ : ∃ h, parH x.data.toList = h := ⟨_, rfl⟩
    obtain ⟨hY, ehY⟩ : ∃ h, parH y.data.toList = h := ⟨_, rfl⟩
    have cX := Lib.hid (fun u (hu : Six.At m u) => parse_any x (by omega) hX true ehX (by rw [lx]; exact o1) m u hu)
    have cY := Lib.hid (fun u (hu : Six.At m u) => parse_any y (by omega) hY true ehY (by rw [ly]; exact p1) m u hu)
    have x8 : hX.p.length = 8 := by rw [← ehX]; exact parH_len _
    have y8 : hY.p.length = 8 := by rw [← ehY]; exact parH_len _
    have xs : hX.s.size ≤ 200 := by rw [← ehX]; exact par_size _ 200 sx
    have ys : hY.s.size ≤ 200 := by rw [← ehY]; exact par_size _ 200 sy
    have cLX := Lib.hid (fun u (hu : Six.At m u) => local_in hX x8 (by omega) true (by rw [← ehX, lx]; exact o2) m u hu)
    have cLY := Lib.hid (fun u (hu : Six.At m u) => local_in hY y8 (by omega) false (by rw [← ehY, ly]; exact p2) m u hu)
    have X8 := Lib.hid x8
    have Y8 := Lib.hid y8
    have HX := Lib.hid hx
    have HY := Lib.hid hy
    clear o1 o2 p1 p2 lx ly ehX ehY x8 y8 xs ys hd hx hy
    go_wp2_with ((with_reducible refine wp_store24 (o := ⟨none, .store 24 (.tmp 4) (.tmp 22), _, _, _, _⟩) ?_ (.tmp 4) (.tmp 22) ?_ u2.heap.size ?_ h ?_ H8.out none0 ?_ HN2.out ?_); (· rfl); (· rfl); (· rfl); (· rfl); (· rfl))
    rw [HX.out]
    refine (cX.out _ HM2.out).mono ?_
    rintro e u3 ⟨rfl, hB3⟩
    have hB3' := Ascii.below2 hB3 (below_new u3 hX)
    have HB3 := Lib.hid (Ascii.below2 HB2.out hB3')
    have HM3 := Lib.hid (show Six.At m (((u3.alloc (.cells #[.int .i64 0, .string ⟨#[]⟩, .int .i64 0, .int .i64 0, .int .i64 0, .int .i64 0, .int .i64 0, .int .i64 0, .int .i64 0, .int .i64 0, .int .i64 0] 24)).setRow u3.heap.size hX.cells)) from HM2.out.later hB3')
    have HN3 := Lib.hid (show HostAt (u3.alloc (.cells #[.int .i64 0, .string ⟨#[]⟩, .int .i64 0, .int .i64 0, .int .i64 0, .int .i64 0, .int .i64 0, .int .i64 0, .int .i64 0, .int .i64 0, .int .i64 0] 24)) u3.heap.size none0 from HostAt.new u3 none0)
    have HX3 := Lib.hid (show HostAt (((u3.alloc (.cells #[.int .i64 0, .string ⟨#[]⟩, .int .i64 0, .int .i64 0, .int .i64 0, .int .i64 0, .int .i64 0, .int .i64 0, .int .i64 0, .int .i64 0, .int .i64 0] 24)).setRow u3.heap.size hX.cells)) u3.heap.size hX from host_new u3 hX)
    clear hB3 hB3' HB2 HM2 cX hc0 HN2
    go_wp2_with ((with_reducible refine wp_store24 (o := ⟨none, .store 24 (.tmp 6) (.tmp 35), _, _, _, _⟩) ?_ (.tmp 6) (.tmp 35) ?_ u3.heap.size ?_ hX ?_ X8.out none0 ?_ HN3.out ?_); (· rfl); (· rfl); (· rfl); (· rfl); (· rfl))
    rw [HY.out]
    refine (cY.out _ HM3.out).mono ?_
    rintro e u4 ⟨rfl, hB4⟩
    have hB4' := Ascii.below2 hB4 (below_new u4 hY)
    have HB4 := Lib.hid (Ascii.below2 HB3.out hB4')
    have HM4 := Lib.hid (show Six.At m (((u4.alloc (.cells #[.int .i64 0, .string ⟨#[]⟩, .int .i64 0, .int .i64 0, .int .i64 0, .int .i64 0, .int .i64 0, .int .i64 0, .int .i64 0, .int .i64 0, .int .i64 0] 24)).setRow u4.heap.size hY.cells)) from HM3.out.later hB4')
    have HN4 := Lib.hid (show HostAt (u4.alloc (.cells #[.int .i64 0, .string ⟨#[]⟩, .int .i64 0, .int .i64 0, .int .i64 0, .int .i64 0, .int .i64 0, .int .i64 0, .int .i64 0, .int .i64 0, .int .i64 0] 24)) u4.heap.size none0 from HostAt.new u4 none0)
    have HX4 := Lib.hid (show HostAt (((u4.alloc (.cells #[.int .i64 0, .string ⟨#[]⟩, .int .i64 0, .int .i64 0, .int .i64 0, .int .i64 0, .int .i64 0, .int .i64 0, .int .i64 0, .int .i64 0, .int .i64 0] 24)).setRow u4.heap.size hY.cells)) u3.heap.size hX from HX3.out.later hB4')
    have HY4 := Lib.hid (show HostAt (((u4.alloc (.cells #[.int .i64 0, .string ⟨#[]⟩, .int .i64 0, .int .i64 0, .int .i64 0, .int .i64 0, .int .i64 0, .int .i64 0, .int .i64 0, .int .i64 0, .int .i64 0] 24)).setRow u4.heap.size hY.cells)) u4.heap.size hY from host_new u4 hY)
    clear hB4 hB4' HB3 HM3 cY HN3 HX3
    go_wp2_with (first
      | ((with_reducible refine wp_store24 (o := ⟨none, .store 24 (.tmp 8) (.tmp 41), _, _, _, _⟩) ?_ (.tmp 8) (.tmp 41) ?_ u4.heap.size ?_ hY ?_ Y8.out none0 ?_ HN4.out ?_); (· rfl); (· rfl); (· rfl); (· rfl); (· rfl))
      | ((with_reducible refine wp_load24 (o := ⟨some 45, .load 24 (.tmp 6), _, _, _, _⟩) ?_ (.tmp 6) ?_ u3.heap.size ?_ hX X8.out HX4.out ?_); (· rfl); (· rfl); (· rfl)))
    refine (cLX.out _ HM4.out).mono ?_
    rintro e u5 ⟨rfl, hB5⟩
    have HY5 := Lib.hid (HY4.out.later hB5)
    have HM5 := Lib.hid (HM4.out.later hB5)
    have HB5 := Lib.hid (Ascii.below2 HB4.out hB5)
    clear hB5 HY4 HX4 HM4 HB4 HN4 cLX
    go_wp2_with ((with_reducible refine wp_load24 (o := ⟨some 52, .load 24 (.tmp 8), _, _, _, _⟩) ?_ (.tmp 8) ?_ u4.heap.size ?_ hY Y8.out HY5.out ?_); (· rfl); (· rfl); (· rfl))
    refine (cLY.out _ HM5.out).mono ?_
    rintro e u6 ⟨rfl, hB6⟩
    go_wp2
    go_ret
    exact ⟨rfl, Ascii.below2 HB5.out hB6⟩
theorem walk (s : ByteArray) (w0 : s.size ≤ maxLen) (m : Int) (w : World) (hm : Six.At m w) :
    Calls Tryd.prog 7 #[.string s] w fun e w' => e = .returned (.bool true) ∧ Below w.heap.size w w' := by
  by_cases h1 : s.size ≤ 80
  · exact walkIn s (decide_eq_false (by omega)) h1 m w hm
  · exact walkLong s (decide_eq_true (by omega)) m w hm

/-! ### The row's step -/
theorem reads (os : Os) {H : Type} (enc : TypeId × Value → H) : (DataW.whole enc Tryd.prog ((Card.laidWorld os).forCall (fun _ _ => 0) ⟨#[], #[.string ByteArray.empty], []⟩).memory Tryd.f7.params.toList Rows.hostLocalSpec.vars false (#[.string ByteArray.empty] : Array Value).toList 8).map (fun x => (x.1, x.2.1)) = some ([.lit (.string [])], []) := by kernel_rfl
set_option maxRecDepth 100000 in
theorem lifted (os : Os) (started : os.Started) (H : Type) (enc : TypeId × Value → H) (F : Stop.Interp) :
    ReturnsInHanded {} Tryd.checked os 7 .any ((OpenSpec.ofChange Rows.hostLocalSpec).preRow enc Tryd.prog Tryd.f7 Rows.hostLocalRow.domain false Rows.hostLocalRow.laid) (((OpenSpec.ofChange Rows.hostLocalSpec).at F).post enc Tryd.prog Tryd.f7 false true false false) := by
  obtain ⟨⟨x1, x2, x3⟩, hx, hx1⟩ := Option.map_eq_some_iff.1 (reads os enc)
  simp only [Prod.mk.injEq] at hx1
  obtain ⟨rfl, rfl⟩ := hx1
  refine returnsInHanded_of_row (C := Tryd.checked) (s := OpenSpec.ofChange Rows.hostLocalSpec) own started (by kernel_rfl) Tryd.func7
    (witness_row_at (enc := enc) (C := Tryd.checked) false (Card.laidWorld os) #[.string ByteArray.empty] rfl (by kernel_rfl) (by kernel_rfl) (by kernel_rfl)
      (OpenSpec.preRow_of_cond 8 hx (by kernel_rfl) (fun k hk => by cases hk) (by kernel_rfl) (Card.laid_met os _))) ?_
  intro W base args ds gs before hval0 hW _ _ _ hL hsh _
  obtain ⟨m, hmax⟩ := Card.maxLen_int hsh
  have hm : Six.At m W := ⟨hmax, Six.tab_of hL⟩
  have hval : ∀ (j : Nat) t v, Tryd.f7.params[j]? = some t → args[j]? = some v → Value.okWide Tryd.prog W .any base t v := hval0
  have hW' := hW
  obtain ⟨p, q, hA0, hV, rfl, hfz, hnd⟩ := hW
  have hA : DataW.TrodAll enc Tryd.prog W 0 (fun _ => true) true Tryd.f7.params.toList args.toList ds p := hA0
  rw [Tryd.params7] at hA hval
  obtain ⟨v0, vs0, d0, ds0, p0, q0, hargs0, rfl, rfl, t0, r0⟩ := trodAll_cons hA
  obtain ⟨rfl, rfl, rfl⟩ := trodAll_nil r0
  obtain rfl : args = #[v0] := by cases args; simp_all
  obtain ⟨rfl, rfl⟩ := trodVars_none hV
  obtain ⟨a0, rfl, rfl, rfl, w0⟩ := open_string Tryd.underlying9 (hval 0 9 v0 rfl rfl) t0
  clear hA0 hval0
  simp only [List.append_nil] at hW'
  refine (walk a0 w0 m W hm).mono fun e W' ⟨he, hg⟩ => ?_
  subst he
  exact ⟨_, rfl, _, _, _, [], _, [], hW', trodAll_mk1 (shut_bool Tryd.underlying4 _), (trodAll_cons_mk (shut_string Tryd.underlying9 w0) trodAll_mk0), rfl, hg.frame _, fun h => by cases h⟩

theorem said : Rows.hostLocalRow.holds Tryd.pinned (OpenSpec.ofChange Rows.hostLocalSpec) :=
  OpenClaim.holds_of_cond 7 Tryd.f7 rfl rfl rfl rfl rfl rfl rfl ⟨rfl, rfl, rfl, rfl, rfl⟩ rfl rfl rfl rfl rfl (by kernel_rfl) Tryd.func7 (by kernel_rfl)
    (of_decide_eq_true (by kernel_rfl)) (by unfold Func.isWrapper; first | (rw [if_pos (by decide +kernel)]; kernel_rfl) | (rw [if_neg (by decide +kernel)]; exact ⟨rfl, rfl⟩))
    (fun os started H enc _ F => by rw [OpenClaim.pre_eq_preRow]; exact lifted os started H enc F)

/-- No parameter wants a stand-in; the program's own looks are on (a type switch over an interface's values). -/
theorem plain (f : FuncId) (fn : Func) (hf : Tryd.pinned.checked.prog.funcNamed Rows.hostLocalRow.func = some f) (hfn : Tryd.pinned.checked.prog.funcs[f]? = some fn) :
    true = Tryd.pinned.checked.prog.looks [] ∧ ∀ (j : Nat) t, fn.params[j]? = some t → Tryd.pinned.checked.prog.wantsStandIn t = false := by
  obtain rfl : f = 7 := Option.some.inj ((show Tryd.prog.funcNamed Rows.hostLocalRow.func = some 7 by kernel_rfl).symm.trans hf) |>.symm
  obtain rfl : fn = Tryd.f7 := (Option.some.inj (Tryd.func7.symm.trans hfn)).symm
  refine ⟨by kernel_rfl, fun j t ht => ?_⟩
  rw [Tryd.params7] at ht
  obtain rfl : t = 9 := by simpa using Array.mem_of_getElem? ht
  · exact (show Tryd.prog.wantsStandIn 9 = false by kernel_rfl)

/-- The statement: the card. -/
theorem proved : Rows.HostLocalCardSaid :=
  Claim7.holds_tied_plain_at .later [] _ _ _ _ said (fun _ h => by cases h) (by kernel_rfl) (fun _ h => by cases h) hostLocal_row_tie rfl ⟨rfl, rfl⟩ (by kernel_rfl) rfl plain (by kernel_rfl)
#print axioms proved
end Go.Proofs.YtidmlhefdjpafaaDoor.hostLocal
