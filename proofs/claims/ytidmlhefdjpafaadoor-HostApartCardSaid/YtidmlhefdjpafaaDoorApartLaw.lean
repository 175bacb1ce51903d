/-
  The law HostApart holds for every input: two hosts that may be are shown as one just if they are the same; nothing that is shown has a slash, a question mark, a number sign, an at sign, or a blank, and a colon just in brackets. No condition of its own; the card: the five listed tables lie as their texts lay them (tied).
-/
import Derived.Test.YtidmlhefdjpafaaDoorCards
import Derived.Test.YtidmlhefdjpafaaDoorTie
import Derived.WalkKit
import Derived.ProofKit
import Derived.OpenShut
import Derived.ShutString
import Derived.Test.YtidmlhefdjpafaaDoorHOpen
namespace Go.Proofs.YtidmlhefdjpafaaDoor.hostApart
open Go.ChangeShapes Go.WideShapes Go.ChangeAt Go.RowKit
open Go.ChangeMaps (open_string shut_string)
open Go.Shelf
open Go.Proofs.YtidmlhefdjpafaaDoor.Host
open Go.Proofs.YtidmlhefdjpafaaDoor.Six (arr RowAt zero8)
set_option linter.unusedSimpArgs false
set_option linter.unusedVariables false

theorem own : ownKnob Tryd.prog.godebug = none := by kernel_rfl

theorem hexC_bytes : ∀ n : Fin 16, (48 ≤ (Six.hexC n.val).toNat ∧ (Six.hexC n.val).toNat ≤ 57) ∨ (97 ≤ (Six.hexC n.val).toNat ∧ (Six.hexC n.val).toNat ≤ 102) := by decide +kernel
theorem hexN_bytes (n : Nat) : ∀ c ∈ Six.hexN n, (48 ≤ c.toNat ∧ c.toNat ≤ 57) ∨ (97 ≤ c.toNat ∧ c.toNat ≤ 102) := by
  induction n using Nat.strongRecOn with
  | ind n ih =>
    intro c hc
    by_cases h : n < 16
    · rw [Six.hexN_lt h, List.mem_singleton] at hc
      rw [hc]; exact hexC_bytes ⟨n, h⟩
    · rw [Six.hexN_ge h, List.mem_append, List.mem_singleton] at hc
      rcases hc with hc | hc
      · exact ih (n / 16) (by omega) c hc
      · rw [hc]; exact hexC_bytes ⟨n % 16, by omega⟩
theorem join_bytes (ts : List (List UInt8)) (c : UInt8) : c ∈ Six.joinC ts → c = 58 ∨ ∃ t ∈ ts, c ∈ t := by
  induction ts with
  | nil => intro h; cases h
  | cons x r ih =>
    cases r with
    | nil => intro h; exact .inr ⟨x, by simp, h⟩
    | cons y r =>
      intro h
      have h' : c ∈ x ++ 58 :: Six.joinC (y :: r) := h
      rcases List.mem_append.1 h' with h1 | h1
      · exact .inr ⟨x, by simp, h1⟩
      · rcases List.mem_cons.1 h1 with h2 | h2
        · exact .inl h2
        · rcases ih h2 with h3 | ⟨t, ht, h3⟩
          · exact .inl h3
          · exact .inr ⟨t, List.mem_cons_of_mem _ ht, h3⟩
theorem texts_bytes (p : List Int) (t : List UInt8) (ht : t ∈ Six.texts p) (c : UInt8) (hc : c ∈ t) : (48 ≤ c.toNat ∧ c.toNat ≤ 57) ∨ (97 ≤ c.toNat ∧ c.toNat ≤ 102) := by
  unfold Six.texts at ht
  obtain ⟨z, _, rfl⟩ := List.mem_map.1 ht
  exact hexN_bytes _ c hc
theorem show6_bytes (p : List Int) (c : UInt8) (hc : c ∈ Six.showS p) : (48 ≤ c.toNat ∧ c.toNat ≤ 57) ∨ (97 ≤ c.toNat ∧ c.toNat ≤ 102) ∨ c = 58 := by
  have key : ∀ ts : List (List UInt8), (∀ t ∈ ts, t ∈ Six.texts p) → c ∈ Six.joinC ts → (48 ≤ c.toNat ∧ c.toNat ≤ 57) ∨ (97 ≤ c.toNat ∧ c.toNat ≤ 102) ∨ c = 58 := by
    intro ts hts h
    rcases join_bytes ts c h with h1 | ⟨t, ht, h1⟩
    · exact .inr (.inr h1)
    · rcases texts_bytes p t (hts t ht) c h1 with h2 | h2
      · exact .inl h2
      · exact .inr (.inl h2)
  unfold Six.showS at hc
  split at hc
  · unfold Six.showIn at hc
    split at hc
    · exact key _ (fun t ht => ht) hc
    · unfold Six.gapped at hc
      rcases List.mem_append.1 hc with h | h
      · exact key _ (fun t ht => List.mem_of_mem_take ht) h
      · rcases List.mem_cons.1 h with h | h
        · exact .inr (.inr h)
        · rcases List.mem_cons.1 h with h | h
          · exact .inr (.inr h)
          · exact key _ (fun t ht => List.mem_of_mem_drop ht) h
  · cases hc
/-- What a byte of a host's text is. -/
theorem shown_bytes (h : H) (h8 : h.p.length = 8) (hm : mayH h = true) (c : UInt8) (hc : c ∈ showH h) : (32 < c.toNat ∧ c.toNat < 127 ∧ c.toNat ≠ 47 ∧ c.toNat ≠ 63 ∧ c.toNat ≠ 35 ∧ c.toNat ≠ 64 ∧ c.toNat ≠ 92) ∧ ¬ (65 ≤ c.toNat ∧ c.toNat ≤ 90) ∧ (c.toNat = 58 → ∃ x, showH h = 91 :: (x ++ [93])) := by
  rcases may_ways h hm with ⟨h0, h3, e⟩ | ⟨n, hn, h0, e⟩ | ⟨h0, h3, e⟩
  · rw [e] at hc
    obtain ⟨d1, d2, d3, d4⟩ := (dom_iff _).1 h3
    obtain ⟨b1, b2, b3, b4, b5, b6, b7, b8, _⟩ := byte_not c (parts_all _ d4 c hc)
    exact ⟨⟨b1, b2, b3, b4, b5, b6, b7⟩, low_cap c (lower_mem _ d2 c hc), fun e => absurd e b8⟩
  · rw [e] at hc
    rcases show4_bytes n c hc with ⟨c1, c2⟩ | rfl
    · exact ⟨by omega, by omega, fun e => by omega⟩
    · exact ⟨by decide, by decide, fun e => absurd e (by decide)⟩
  · rw [e] at hc
    refine ⟨?_, ?_, fun _ => ⟨_, e⟩⟩
    · rcases List.mem_cons.1 hc with rfl | hc
      · decide
      · rcases List.mem_append.1 hc with hc | hc
        · rcases show6_bytes _ c hc with ⟨c1, c2⟩ | ⟨c1, c2⟩ | rfl
          · omega
          · omega
          · decide
        · rw [List.mem_singleton] at hc; subst hc; decide
    · rcases List.mem_cons.1 hc with rfl | hc
      · decide
      · rcases List.mem_append.1 hc with hc | hc
        · rcases show6_bytes _ c hc with ⟨c1, c2⟩ | ⟨c1, c2⟩ | rfl
          · omega
          · omega
          · decide
        · rw [List.mem_singleton] at hc; subst hc; decide
theorem show_inj (a b : H) (a8 : a.p.length = 8) (b8 : b.p.length = 8) (ma : mayH a = true) (mb : mayH b = true) (h : showH a = showH b) : a = b := by
  have h1 := (show_back a a8 ma).2.1
  have h2 := (show_back b b8 mb).2.1
  rw [← h1, h, h2]
theorem brk_ends (t : ByteArray) (x : List UInt8) (h : t.data.toList = 91 :: (x ++ [93])) : 0 < t.size ∧ (∀ h' : 0 < t.size, ((t[0]'h').toNat : Int) = 91) ∧ ∀ h' : t.size - 1 < t.size, ((t[t.size - 1]'h').toNat : Int) = 93 := by
  have hl : t.size = x.length + 2 := by
    have : t.data.toList.length = t.size := rfl
    rw [← this, h]; simp
  refine ⟨by omega, fun h' => ?_, fun h' => ?_⟩
  · have h2 : t.data.toList[0]? = some (t[0]'h') := List.getElem?_eq_getElem (by exact h')
    rw [h] at h2
    have := Option.some.inj h2
    rw [← this]; rfl
  · have h1 : t.data.toList[t.size - 1]? = some 93 := by
      rw [h, hl, show x.length + 2 - 1 = x.length + 1 from rfl, List.getElem?_cons_succ]; simp
    have h2 : t.data.toList[t.size - 1]? = some (t[t.size - 1]'h') := List.getElem?_eq_getElem (by exact h')
    rw [h2] at h1
    rw [Option.some.inj h1]; rfl
theorem two_new (m : Int) (a b : H) (w : World) (hm : Six.At m w) : TwoH m w.heap.size (w.heap.size + 1) a b ((w.alloc (.cells a.cells 24)).alloc (.cells b.cells 24)) := by
  have hB : Below w.heap.size w ((w.alloc (.cells a.cells 24)).alloc (.cells b.cells 24)) := ((Below.refl _ w).alloc (Nat.le_refl _) _).alloc (by simp) _
  refine ⟨(HostAt.new w a).past _, ?_, hm.later hB⟩
  have := HostAt.new (w.alloc (.cells a.cells 24)) b
  simpa using this
set_option maxRecDepth 100000 in
set_option maxHeartbeats 8000000 in
theorem walkLong (a b : H) (i : Int) (hs : decide ((300 : Int) < (a.s.size : Int)) = true ∨ (decide ((300 : Int) < (a.s.size : Int)) = false ∧ decide ((300 : Int) < (b.s.size : Int)) = true)) (m : Int) (w : World) (hm : Six.At m w) :
    Calls Tryd.prog 4 #[.agg a.cells, .agg b.cells, .int .i64 i] w fun e w' => e = .returned (.bool true) ∧ Below w.heap.size w w' := by
  have HB := Lib.hid (show Below w.heap.size w ((w.alloc (.cells a.cells 24)).alloc (.cells b.cells 24)) from ((Below.refl _ w).alloc (Nat.le_refl _) _).alloc (by simp) _)
  have HT := Lib.hid (two_new m a b w hm)
  have HCa := Lib.hid (cells_at a)
  have HCb := Lib.hid (cells_at b)
  clear hm
  go_enter Tryd.func4, Tryd.ntmps4
  go_wp2_with fail
  generalize (w.alloc (.cells a.cells 24)).alloc (.cells b.cells 24) = W at HB HT ⊢
  refine (awake_calls m _ HT.out.at_).mono ?_
  rintro e u1 ⟨rfl, hB1⟩
  have HT1 := Lib.hid (HT.out.later hB1)
  have HB1 := Lib.hid (Ascii.below2 HB.out hB1)
  have ca := (HT1.out.r1.cell 1).trans HCa.out.2.1
  have cb := (HT1.out.r2.cell 1).trans HCb.out.2.1
  clear hB1 HT HB HCa HCb
  rcases hs with h1 | ⟨h1, h2⟩
  all_goals
    go_wp2
    go_ret
    exact ⟨rfl, HB1.out⟩
set_option maxRecDepth 100000 in
set_option maxHeartbeats 8000000 in
theorem walkNot (a b : H) (a8 : a.p.length = 8) (b8 : b.p.length = 8) (i : Int) (d1 : decide ((300 : Int) < (a.s.size : Int)) = false) (d2 : decide ((300 : Int) < (b.s.size : Int)) = false) (sa : a.s.size ≤ 300) (sb : b.s.size ≤ 300) (hn : mayH a = false ∨ (mayH a = true ∧ mayH b = false)) (m : Int) (w : World) (hm : Six.At m w) :
    Calls Tryd.prog 4 #[.agg a.cells, .agg b.cells, .int .i64 i] w fun e w' => e = .returned (.bool true) ∧ Below w.heap.size w w' := by
  have HB := Lib.hid (show Below w.heap.size w ((w.alloc (.cells a.cells 24)).alloc (.cells b.cells 24)) from ((Below.refl _ w).alloc (Nat.le_refl _) _).alloc (by simp) _)
  have HT := Lib.hid (two_new m a b w hm)
  have HCa := Lib.hid (cells_at a)
  have HCb := Lib.hid (cells_at b)
  have A8 := Lib.hid a8
  have B8 := Lib.hid b8
  have cM := Lib.hid (fun (x : H) (x8 : x.p.length = 8) (xs : x.s.size ≤ 300) (c : Bool) (hc : mayH x = c) u (hu : Six.At m u) => may_any x x8 (by omega) c hc m u hu)
  have SA := Lib.hid sa
  have SB := Lib.hid sb
  have HN := Lib.hid hn
  clear hm a8 b8 hn sa sb
  go_enter Tryd.func4, Tryd.ntmps4
  go_wp2_with fail
  generalize (w.alloc (.cells a.cells 24)).alloc (.cells b.cells 24) = W at HB HT ⊢
  refine (awake_calls m _ HT.out.at_).mono ?_
  rintro e u1 ⟨rfl, hB1⟩
  have HT1 := Lib.hid (HT.out.later hB1)
  have HB1 := Lib.hid (Ascii.below2 HB.out hB1)
  have ca := (HT1.out.r1.cell 1).trans HCa.out.2.1
  have cb := (HT1.out.r2.cell 1).trans HCb.out.2.1
  clear hB1 HT HB HCa HCb
  rcases HN.out with h | ⟨h1, h2⟩
  · have HP := Lib.hid h
    clear h HN
    go_wp2_with ((with_reducible refine wp_load24 (o := ⟨some 27, .load 24 (.tmp 3), _, _, _, _⟩) ?_ (.tmp 3) ?_ w.heap.size ?_ a A8.out HT1.out.r1 ?_); (· rfl); (· rfl); (· rfl))
    refine (cM.out a A8.out SA.out false HP.out _ HT1.out.at_).mono ?_
    rintro e u2 ⟨rfl, hB2⟩
    clear ca cb
    go_wp2
    go_ret
    exact ⟨rfl, Ascii.below2 HB1.out hB2⟩
  · have HP := Lib.hid h1
    have HQ := Lib.hid h2
    clear h1 h2 HN
    go_wp2_with ((with_reducible refine wp_load24 (o := ⟨some 27, .load 24 (.tmp 3), _, _, _, _⟩) ?_ (.tmp 3) ?_ w.heap.size ?_ a A8.out HT1.out.r1 ?_); (· rfl); (· rfl); (· rfl))
    refine (cM.out a A8.out SA.out true HP.out _ HT1.out.at_).mono ?_
    rintro e u2 ⟨rfl, hB2⟩
    have HT2 := Lib.hid (HT1.out.later hB2)
    have HB2 := Lib.hid (Ascii.below2 HB1.out hB2)
    clear hB2 HT1 HB1 ca cb
    go_wp2_with ((with_reducible refine wp_load24 (o := ⟨some 32, .load 24 (.tmp 4), _, _, _, _⟩) ?_ (.tmp 4) ?_ (w.heap.size + 1) ?_ b B8.out HT2.out.r2 ?_); (· rfl); (· rfl); (· rfl))
    refine (cM.out b B8.out SB.out false HQ.out _ HT2.out.at_).mono ?_
    rintro e u3 ⟨rfl, hB3⟩
    go_wp2
    go_ret
    exact ⟨rfl, Ascii.below2 HB2.out hB3⟩
set_option maxRecDepth 100000 in
set_option maxHeartbeats 8000000 in
theorem walkIn (a b : H) (a8 : a.p.length = 8) (b8 : b.p.length = 8) (i : Int) (d1 : decide ((300 : Int) < (a.s.size : Int)) = false) (d2 : decide ((300 : Int) < (b.s.size : Int)) = false) (sa : a.s.size ≤ 300) (sb : b.s.size ≤ 300) (ma : mayH a = true) (mb : mayH b = true) (m : Int) (w : World) (hm : Six.At m w) :
    Calls Tryd.prog 4 #[.agg a.cells, .agg b.cells, .int .i64 i] w fun e w' => e = .returned (.bool true) ∧ Below w.heap.size w w' := by
  have HB := Lib.hid (show Below w.heap.size w ((w.alloc (.cells a.cells 24)).alloc (.cells b.cells 24)) from ((Below.refl _ w).alloc (Nat.le_refl _) _).alloc (by simp) _)
  have HT := Lib.hid (two_new m a b w hm)
  have HCa := Lib.hid (cells_at a)
  have HCb := Lib.hid (cells_at b)
  have A8 := Lib.hid a8
  have B8 := Lib.hid b8
  obtain ⟨t, ht⟩ : ∃ t : ByteArray, (⟨(showH a).toArray⟩ : ByteArray) = t := ⟨_, rfl⟩
  obtain ⟨y, hy⟩ : ∃ y : ByteArray, (⟨(showH b).toArray⟩ : ByteArray) = y := ⟨_, rfl⟩
  have tl : t.data.toList = showH a := by rw [← ht]
  have yl : y.data.toList = showH b := by rw [← hy]
  obtain ⟨_, _, tne, tlen⟩ := show_back a a8 ma
  have tsz : t.size ≤ 100 := by rw [← tl] at tlen; exact tlen
  have te : t.toList.isEmpty = false := by
    rw [toList_ba, tl]
    cases e : showH a with
    | nil => exact absurd e tne
    | cons c r => rfl
  have HSh := Lib.hid (shown_bytes a a8 ma)
  have hway : (a = b ∧ sameH a b = true ∧ (t.toList == y.toList) = true) ∨ (sameH a b = false ∧ (t.toList == y.toList) = false) := by
    rw [toList_ba, toList_ba, tl, yl]
    by_cases h : a = b
    · exact .inl ⟨h, (same_iff a b).2 h, by rw [h]; simp⟩
    · refine .inr ⟨?_, beq_false_of_ne fun e => h (show_inj a b a8 b8 ma mb e)⟩
      cases e : sameH a b
      · rfl
      · exact absurd ((same_iff a b).1 e) h
  have HWay := Lib.hid hway
  have HTl := Lib.hid tl
  have cMa := Lib.hid (fun u (hu : Six.At m u) => may_any a a8 (by omega) true ma m u hu)
  have cMb := Lib.hid (fun u (hu : Six.At m u) => may_any b b8 (by omega) true mb m u hu)
  have cSa := Lib.hid (fun u (hu : Six.At m u) => show_in a a8 (by omega) t ht m u hu)
  have cSb := Lib.hid (fun u (hu : Six.At m u) => show_in b b8 (by omega) y hy m u hu)
  clear hm a8 b8 ht hy tl yl tne tlen hway ma mb
  go_enter Tryd.func4, Tryd.ntmps4
  go_wp2_with fail
  generalize (w.alloc (.cells a.cells 24)).alloc (.cells b.cells 24) = W at HB HT ⊢
  refine (awake_calls m _ HT.out.at_).mono ?_
  rintro e u1 ⟨rfl, hB1⟩
  have HT1 := Lib.hid (HT.out.later hB1)
  have HB1 := Lib.hid (Ascii.below2 HB.out hB1)
  have ca := (HT1.out.r1.cell 1).trans HCa.out.2.1
  have cb := (HT1.out.r2.cell 1).trans HCb.out.2.1
  clear hB1 HT HB HCa HCb
  go_wp2_with ((with_reducible refine wp_load24 (o := ⟨some 27, .load 24 (.tmp 3), _, _, _, _⟩) ?_ (.tmp 3) ?_ w.heap.size ?_ a A8.out HT1.out.r1 ?_); (· rfl); (· rfl); (· rfl))
  refine (cMa.out _ HT1.out.at_).mono ?_
  rintro e u2 ⟨rfl, hB2⟩
  have HT2 := Lib.hid (HT1.out.later hB2)
  have HB2 := Lib.hid (Ascii.below2 HB1.out hB2)
  clear hB2 HT1 HB1 ca cb cMa
  go_wp2_with ((with_reducible refine wp_load24 (o := ⟨some 32, .load 24 (.tmp 4), _, _, _, _⟩) ?_ (.tmp 4) ?_ (w.heap.size + 1) ?_ b B8.out HT2.out.r2 ?_); (· rfl); (· rfl); (· rfl))
  refine (cMb.out _ HT2.out.at_).mono ?_
  rintro e u3 ⟨rfl, hB3⟩
  have HT3 := Lib.hid (HT2.out.later hB3)
  have HB3 := Lib.hid (Ascii.below2 HB2.out hB3)
  clear hB3 HT2 HB2 cMb
  go_wp2_with ((with_reducible refine wp_load24 (o := ⟨some 37, .load 24 (.tmp 3), _, _, _, _⟩) ?_ (.tmp 3) ?_ w.heap.size ?_ a A8.out HT3.out.r1 ?_); (· rfl); (· rfl); (· rfl))
  refine (cSa.out _ HT3.out.at_).mono ?_
  rintro e V ⟨rfl, hB4⟩
  have HT4 := Lib.hid (HT3.out.later hB4)
  have HB4 := Lib.hid (Ascii.below2 HB3.out hB4)
  clear hB4 HT3 HB3 cSa
  go_wp2
  have hany : ∀ p : Prop, (∀ u, Below V.heap.size V u → p) ↔ p := fun p => ⟨fun h => h _ (Below.refl _ _), fun h _ _ => h⟩
  have hi : decide (i < 0) = true ∨ (decide (i < 0) = false ∧ decide ((t.size : Int) ≤ i) = true) ∨ ∃ j : Nat, i = (j : Int) ∧ j < t.size ∧ decide ((j : Int) < 0) = false ∧ decide (t.size ≤ j) = false := by
    by_cases h1 : i < 0
    · exact .inl (decide_eq_true h1)
    · by_cases h2 : (t.size : Int) ≤ i
      · exact .inr (.inl ⟨decide_eq_false h1, decide_eq_true h2⟩)
      · exact .inr (.inr ⟨i.toNat, by omega, by omega, decide_eq_false (by omega), decide_eq_false (by omega)⟩)
  have HI := Lib.hid hi
  clear hi
  rcases HWay.out with ⟨rfl, hs, hq⟩ | ⟨hs, hq⟩
  · have heq := fun u => eq24 a a A8.out B8.out true (same_refl a) u
    refine Ascii.wp_region_quiet_below (by kernel_rfl) (by kernel_rfl) ?_
    go_big_quiet_step (fail)
    ((go_big_quiet_want; (with_reducible refine quiet_load (o := ⟨some 40, .load 24 (.tmp 4), _, _, _, _⟩) 24 (.tmp 4) ?_ ⟨(w.heap.size + 1), 0, none⟩ ?_ (.agg a.cells) ?_ ?_); (· rfl); (· rfl); (· exact fun u hu => (HT4.out.r2.later hu).load B8.out)); go_big_quiet_on; simp only [Act.put, List.setIfInBounds_toArray, List.set_cons_succ, List.set_cons_zero])
    go_big_quiet_step ((intro hu; go_at_call 9; exact (cSb.out _ (HT4.out.at_.later hu)).mono fun e u' h => ⟨h.1, hu.trans (h.2.mono hu.size)⟩))
    go_big_quiet_step (fail)
    ((go_big_quiet_want; (with_reducible refine quiet_load (o := ⟨some 43, .load 24 (.tmp 3), _, _, _, _⟩) 24 (.tmp 3) ?_ ⟨w.heap.size, 0, none⟩ ?_ (.agg a.cells) ?_ ?_); (· rfl); (· rfl); (· exact fun u hu => (HT4.out.r1.later hu).load A8.out)); go_big_quiet_on; simp only [Act.put, List.setIfInBounds_toArray, List.set_cons_succ, List.set_cons_zero])
    ((go_big_quiet_want; (with_reducible refine quiet_load (o := ⟨some 44, .load 24 (.tmp 4), _, _, _, _⟩) 24 (.tmp 4) ?_ ⟨(w.heap.size + 1), 0, none⟩ ?_ (.agg a.cells) ?_ ?_); (· rfl); (· rfl); (· exact fun u hu => (HT4.out.r2.later hu).load B8.out)); go_big_quiet_on; simp only [Act.put, List.setIfInBounds_toArray, List.set_cons_succ, List.set_cons_zero])
    repeat (go_big_quiet_step (fail))
    refine wpQuiet_nil ?_
    intro u hu
    have HU := Lib.hid (Ascii.below2 HB4.out hu)
    clear hu heq hq hany
    clear hs
    rcases HI.out with i1 | ⟨i1, i2⟩ | ⟨j, rfl, hj, i1, i2⟩
    · clear HI
      go_wp2
      go_ret
      exact ⟨rfl, HU.out⟩
    · clear HI
      go_wp2
      go_ret
      exact ⟨rfl, HU.out⟩
    · have hmem : t[j] ∈ showH a := by
        rw [← HTl.out]
        have : t.data.toList[j]'hj = t[j] := rfl
        rw [← this]; exact List.getElem_mem _
      obtain ⟨⟨p1, p2, p3, p4, p5, p6, p7⟩, p8, p9⟩ := HSh.out t[j] hmem
      have b1 : decide ((32 : Int) < (t[j].toNat : Int)) = true := decide_eq_true (by omega)
      have b2 : decide ((t[j].toNat : Int) < 127) = true := decide_eq_true (by omega)
      have b3 : ((t[j].toNat : Int) != 47) = true := bne_iff_ne.2 (by omega)
      have b4 : ((t[j].toNat : Int) != 63) = true := bne_iff_ne.2 (by omega)
      have b5 : ((t[j].toNat : Int) != 35) = true := bne_iff_ne.2 (by omega)
      have b6 : ((t[j].toNat : Int) != 64) = true := bne_iff_ne.2 (by omega)
      have b7 : ((t[j].toNat : Int) != 92) = true := bne_iff_ne.2 (by omega)
      have hcap : decide ((t[j].toNat : Int) < 65) = true ∨ (decide ((t[j].toNat : Int) < 65) = false ∧ decide ((90 : Int) < (t[j].toNat : Int)) = true) := by
        by_cases h : t[j].toNat < 65
        · exact .inl (decide_eq_true (by omega))
        · exact .inr ⟨decide_eq_false (by omega), decide_eq_true (by omega)⟩
      have hcol : ((t[j].toNat : Int) != 58) = true ∨ (((t[j].toNat : Int) != 58) = false ∧ (0 < t.size ∧ (∀ h' : 0 < t.size, (((t[0]'h').toNat : Int) == 91) = true) ∧ ∀ h' : t.size - 1 < t.size, (((t[t.size - 1]'h').toNat : Int) == 93) = true)) := by
        by_cases h : t[j].toNat = 58
        · obtain ⟨x, hx⟩ := p9 h
          obtain ⟨e1, e2, e3⟩ := brk_ends t x (HTl.out.trans hx)
          exact .inr ⟨by rw [h]; rfl, e1, fun h' => by rw [e2 h']; rfl, fun h' => by rw [e3 h']; rfl⟩
        · exact .inl (bne_iff_ne.2 (by omega))
      clear p1 p2 p3 p4 p5 p6 p7 p8 p9 hmem HI
      rcases hcol with c1 | ⟨c1, c2, c3, c4⟩
      all_goals
        rcases hcap with k1 | ⟨k1, k2⟩
        all_goals
          go_wp2
          go_ret
          exact ⟨rfl, HU.out⟩
  · have heq := fun u => eq24 a b A8.out B8.out false hs u
    refine Ascii.wp_region_quiet_below (by kernel_rfl) (by kernel_rfl) ?_
    go_big_quiet_step (fail)
    ((go_big_quiet_want; (with_reducible refine quiet_load (o := ⟨some 40, .load 24 (.tmp 4), _, _, _, _⟩) 24 (.tmp 4) ?_ ⟨(w.heap.size + 1), 0, none⟩ ?_ (.agg b.cells) ?_ ?_); (· rfl); (· rfl); (· exact fun u hu => (HT4.out.r2.later hu).load B8.out)); go_big_quiet_on; simp only [Act.put, List.setIfInBounds_toArray, List.set_cons_succ, List.set_cons_zero])
    go_big_quiet_step ((intro hu; go_at_call 9; exact (cSb.out _ (HT4.out.at_.later hu)).mono fun e u' h => ⟨h.1, hu.trans (h.2.mono hu.size)⟩))
    go_big_quiet_step (fail)
    ((go_big_quiet_want; (with_reducible refine quiet_load (o := ⟨some 43, .load 24 (.tmp 3), _, _, _, _⟩) 24 (.tmp 3) ?_ ⟨w.heap.size, 0, none⟩ ?_ (.agg a.cells) ?_ ?_); (· rfl); (· rfl); (· exact fun u hu => (HT4.out.r1.later hu).load A8.out)); go_big_quiet_on; simp only [Act.put, List.setIfInBounds_toArray, List.set_cons_succ, List.set_cons_zero])
    ((go_big_quiet_want; (with_reducible refine quiet_load (o := ⟨some 44, .load 24 (.tmp 4), _, _, _, _⟩) 24 (.tmp 4) ?_ ⟨(w.heap.size + 1), 0, none⟩ ?_ (.agg b.cells) ?_ ?_); (· rfl); (· rfl); (· exact fun u hu => (HT4.out.r2.later hu).load B8.out)); go_big_quiet_on; simp only [Act.put, List.setIfInBounds_toArray, List.set_cons_succ, List.set_cons_zero])
    repeat (go_big_quiet_step (fail))
    refine wpQuiet_nil ?_
    intro u hu
    have HU := Lib.hid (Ascii.below2 HB4.out hu)
    clear hu heq hq hany
    clear hs
    rcases HI.out with i1 | ⟨i1, i2⟩ | ⟨j, rfl, hj, i1, i2⟩
    · clear HI
      go_wp2
      go_ret
      exact ⟨rfl, HU.out⟩
    · clear HI
      go_wp2
      go_ret
      exact ⟨rfl, HU.out⟩
    · have hmem : t[j] ∈ showH a := by
        rw [← HTl.out]
        have : t.data.toList[j]'hj = t[j] := rfl
        rw [← this]; exact List.getElem_mem _
      obtain ⟨⟨p1, p2, p3, p4, p5, p6, p7⟩, p8, p9⟩ := HSh.out t[j] hmem
      have b1 : decide ((32 : Int) < (t[j].toNat : Int)) = true := decide_eq_true (by omega)
      have b2 : decide ((t[j].toNat : Int) < 127) = true := decide_eq_true (by omega)
      have b3 : ((t[j].toNat : Int) != 47) = true := bne_iff_ne.2 (by omega)
      have b4 : ((t[j].toNat : Int) != 63) = true := bne_iff_ne.2 (by omega)
      have b5 : ((t[j].toNat : Int) != 35) = true := bne_iff_ne.2 (by omega)
      have b6 : ((t[j].toNat : Int) != 64) = true := bne_iff_ne.2 (by omega)
      have b7 : ((t[j].toNat : Int) != 92) = true := bne_iff_ne.2 (by omega)
      have hcap : decide ((t[j].toNat : Int) < 65) = true ∨ (decide ((t[j].toNat : Int) < 65) = false ∧ decide ((90 : Int) < (t[j].toNat : Int)) = true) := by
        by_cases h : t[j].toNat < 65
        · exact .inl (decide_eq_true (by omega))
        · exact .inr ⟨decide_eq_false (by omega), decide_eq_true (by omega)⟩
      have hcol : ((t[j].toNat : Int) != 58) = true ∨ (((t[j].toNat : Int) != 58) = false ∧ (0 < t.size ∧ (∀ h' : 0 < t.size, (((t[0]'h').toNat : Int) == 91) = true) ∧ ∀ h' : t.size - 1 < t.size, (((t[t.size - 1]'h').toNat : Int) == 93) = true)) := by
        by_cases h : t[j].toNat = 58
        · obtain ⟨x, hx⟩ := p9 h
          obtain ⟨e1, e2, e3⟩ := brk_ends t x (HTl.out.trans hx)
          exact .inr ⟨by rw [h]; rfl, e1, fun h' => by rw [e2 h']; rfl, fun h' => by rw [e3 h']; rfl⟩
        · exact .inl (bne_iff_ne.2 (by omega))
      clear p1 p2 p3 p4 p5 p6 p7 p8 p9 hmem HI
      rcases hcol with c1 | ⟨c1, c2, c3, c4⟩
      all_goals
        rcases hcap with k1 | ⟨k1, k2⟩
        all_goals
          go_wp2
          go_ret
          exact ⟨rfl, HU.out⟩
theorem walk (a : H) (a8 : a.p.length = 8) (b : H) (b8 : b.p.length = 8) (i : Int) (w0 : Six.wfH a) (w1 : Six.wfH b) (w2 : (Lit.int .i64 i).wf = true) (m : Int) (w : World) (hm : Six.At m w) :
    Calls Tryd.prog 4 #[.agg a.cells, .agg b.cells, .int .i64 i] w fun e w' => e = .returned (.bool true) ∧ Below w.heap.size w w' := by
  by_cases h1 : a.s.size ≤ 300
  · by_cases h2 : b.s.size ≤ 300
    · cases ha : mayH a
      · exact walkNot a b a8 b8 i (decide_eq_false (by omega)) (decide_eq_false (by omega)) h1 h2 (.inl ha) m w hm
      · cases hb : mayH b
        · exact walkNot a b a8 b8 i (decide_eq_false (by omega)) (decide_eq_false (by omega)) h1 h2 (.inr ⟨ha, hb⟩) m w hm
        · exact walkIn a b a8 b8 i (decide_eq_false (by omega)) (decide_eq_false (by omega)) h1 h2 ha hb m w hm
    · exact walkLong a b i (.inr ⟨decide_eq_false (by omega), decide_eq_true (by omega)⟩) m w hm
  · exact walkLong a b i (.inl (decide_eq_true (by omega))) m w hm

/-! ### The row's step -/
theorem reads (os : Os) {H : Type} (enc : TypeId × Value → H) : (DataW.whole enc Tryd.prog ((Card.laidWorld os).forCall (fun _ _ => 0) ⟨#[], #[.agg #[.int .i64 0, .string ByteArray.empty, .int .i64 0, .int .i64 0, .int .i64 0, .int .i64 0, .int .i64 0, .int .i64 0, .int .i64 0, .int .i64 0, .int .i64 0], .agg #[.int .i64 0, .string ByteArray.empty, .int .i64 0, .int .i64 0, .int .i64 0, .int .i64 0, .int .i64 0, .int .i64 0, .int .i64 0, .int .i64 0, .int .i64 0], .int .i64 0], []⟩).memory Tryd.f4.params.toList Rows.hostApartSpec.vars false (#[.agg #[.int .i64 0, .string ByteArray.empty, .int .i64 0, .int .i64 0, .int .i64 0, .int .i64 0, .int .i64 0, .int .i64 0, .int .i64 0, .int .i64 0, .int .i64 0], .agg #[.int .i64 0, .string ByteArray.empty, .int .i64 0, .int .i64 0, .int .i64 0, .int .i64 0, .int .i64 0, .int .i64 0, .int .i64 0, .int .i64 0, .int .i64 0], .int .i64 0] : Array Value).toList 8).map (fun x => (x.1, x.2.1)) = some ([.agg [.lit (.int .i64 0), .lit (.string []), .lit (.int .i64 0), .agg [.lit (.int .i64 0), .lit (.int .i64 0), .lit (.int .i64 0), .lit (.int .i64 0), .lit (.int .i64 0), .lit (.int .i64 0), .lit (.int .i64 0), .lit (.int .i64 0)]], .agg [.lit (.int .i64 0), .lit (.string []), .lit (.int .i64 0), .agg [.lit (.int .i64 0), .lit (.int .i64 0), .lit (.int .i64 0), .lit (.int .i64 0), .lit (.int .i64 0), .lit (.int .i64 0), .lit (.int .i64 0), .lit (.int .i64 0)]], .lit (.int .i64 0)], []) := by kernel_rfl
set_option maxRecDepth 100000 in
theorem lifted (os : Os) (started : os.Started) (H : Type) (enc : TypeId × Value → H) (F : Stop.Interp) :
    ReturnsInHanded {} Tryd.checked os 4 .any ((OpenSpec.ofChange Rows.hostApartSpec).preRow enc Tryd.prog Tryd.f4 Rows.hostApartRow.domain false Rows.hostApartRow.laid) (((OpenSpec.ofChange Rows.hostApartSpec).at F).post enc Tryd.prog Tryd.f4 false true false false) := by
  obtain ⟨⟨x1, x2, x3⟩, hx, hx1⟩ := Option.map_eq_some_iff.1 (reads os enc)
  simp only [Prod.mk.injEq] at hx1
  obtain ⟨rfl, rfl⟩ := hx1
  refine returnsInHanded_of_row (C := Tryd.checked) (s := OpenSpec.ofChange Rows.hostApartSpec) own started (by kernel_rfl) Tryd.func4
    (witness_row_at (enc := enc) (C := Tryd.checked) false (Card.laidWorld os) #[.agg #[.int .i64 0, .string ByteArray.empty, .int .i64 0, .int .i64 0, .int .i64 0, .int .i64 0, .int .i64 0, .int .i64 0, .int .i64 0, .int .i64 0, .int .i64 0], .agg #[.int .i64 0, .string ByteArray.empty, .int .i64 0, .int .i64 0, .int .i64 0, .int .i64 0, .int .i64 0, .int .i64 0, .int .i64 0, .int .i64 0, .int .i64 0], .int .i64 0] rfl (by kernel_rfl) (by kernel_rfl) (by kernel_rfl)
      (OpenSpec.preRow_of_cond 8 hx (by kernel_rfl) (fun k hk => by cases hk) (by kernel_rfl) (Card.laid_met os _))) ?_
  intro W base args ds gs before hval0 hW _ _ _ hL hsh _
  obtain ⟨m, hmax⟩ := Card.maxLen_int hsh
  have hm : Six.At m W := ⟨hmax, Six.tab_of hL⟩
  have hval : ∀ (j : Nat) t v, Tryd.f4.params[j]? = some t → args[j]? = some v → Value.okWide Tryd.prog W .any base t v := hval0
  have hW' := hW
  obtain ⟨p, q, hA0, hV, rfl, hfz, hnd⟩ := hW
  have hA : DataW.TrodAll enc Tryd.prog W 0 (fun _ => true) true Tryd.f4.params.toList args.toList ds p := hA0
  rw [Tryd.params4] at hA hval
  obtain ⟨v0, vs0, d0, ds0, p0, q0, hargs0, rfl, rfl, t0, r0⟩ := trodAll_cons hA
  obtain ⟨v1, vs1, d1, ds1, p1, q1, hargs1, rfl, rfl, t1, r1⟩ := trodAll_cons r0
  obtain ⟨v2, vs2, d2, ds2, p2, q2, hargs2, rfl, rfl, t2, r2⟩ := trodAll_cons r1
  obtain ⟨rfl, rfl, rfl⟩ := trodAll_nil r2
  obtain rfl : args = #[v0, v1, v2] := by cases args; simp_all
  obtain ⟨rfl, rfl⟩ := trodVars_none hV
  obtain ⟨a0, l0, rfl, rfl, rfl, w0⟩ := Six.open_host (hval 0 24 v0 rfl rfl) t0
  obtain ⟨a1, l1, rfl, rfl, rfl, w1⟩ := Six.open_host (hval 1 24 v1 rfl rfl) t1
  obtain ⟨a2, rfl, rfl, rfl, w2⟩ := open_int Tryd.underlying3 (hval 2 3 v2 rfl rfl) t2
  clear hA0 hval0
  simp only [List.append_nil] at hW'
  refine (walk a0 l0 a1 l1 a2 w0 w1 w2 m W hm).mono fun e W' ⟨he, hg⟩ => ?_
  subst he
  exact ⟨_, rfl, _, _, _, [], _, [], hW', trodAll_mk1 (shut_bool Tryd.underlying4 _), (trodAll_cons_mk (Six.shut_host l0 w0) (trodAll_cons_mk (Six.shut_host l1 w1) (trodAll_cons_mk (shut_int Tryd.underlying3 w2) trodAll_mk0))), rfl, hg.frame _, fun h => by cases h⟩

theorem said : Rows.hostApartRow.holds Tryd.pinned (OpenSpec.ofChange Rows.hostApartSpec) :=
  OpenClaim.holds_of_cond 4 Tryd.f4 rfl rfl rfl rfl rfl rfl rfl ⟨rfl, rfl, rfl, rfl, rfl⟩ rfl rfl rfl rfl rfl (by kernel_rfl) Tryd.func4 (by kernel_rfl)
    (of_decide_eq_true (by kernel_rfl)) (by unfold Func.isWrapper; first | (rw [if_pos (by decide +kernel)]; kernel_rfl) | (rw [if_neg (by decide +kernel)]; exact ⟨rfl, rfl⟩))
    (fun os started H enc _ F => by rw [OpenClaim.pre_eq_preRow]; exact lifted os started H enc F)

/-- No parameter wants a stand-in; the program's own looks are on (a type switch over an interface's values). -/
theorem plain (f : FuncId) (fn : Func) (hf : Tryd.pinned.checked.prog.funcNamed Rows.hostApartRow.func = some f) (hfn : Tryd.pinned.checked.prog.funcs[f]? = some fn) :
    true = Tryd.pinned.checked.prog.looks [] ∧ ∀ (j : Nat) t, fn.params[j]? = some t → Tryd.pinned.checked.prog.wantsStandIn t = false := by
  obtain rfl : f = 4 := Option.some.inj ((show Tryd.prog.funcNamed Rows.hostApartRow.func = some 4 by kernel_rfl).symm.trans hf) |>.symm
  obtain rfl : fn = Tryd.f4 := (Option.some.inj (Tryd.func4.symm.trans hfn)).symm
  refine ⟨by kernel_rfl, fun j t ht => ?_⟩
  rw [Tryd.params4] at ht
  obtain rfl | rfl : t = 24 ∨ t = 3 := by simpa using Array.mem_of_getElem? ht
  · exact (show Tryd.prog.wantsStandIn 24 = false by kernel_rfl)
  · exact (show Tryd.prog.wantsStandIn 3 = false by kernel_rfl)

/-- The statement: the card. -/
theorem proved : Rows.HostApartCardSaid :=
  Claim7.holds_tied_plain_at .later [] _ _ _ _ said (fun _ h => by cases h) (by kernel_rfl) (fun _ h => by cases h) hostApart_row_tie rfl ⟨rfl, rfl⟩ (by kernel_rfl) rfl plain (by kernel_rfl)
#print axioms proved
end Go.Proofs.YtidmlhefdjpafaaDoor.hostApart
