/-
  The document's functions of layer 7: May and Show of hosts.
-/
import Derived.Test.YtlkikfdbjpjpaaaGreatDoorSName
namespace Go.Proofs.YtlkikfdbjpjpaaaGreatDoor.Url
set_option linter.unusedSimpArgs false
set_option linter.unusedVariables false
set_option maxRecDepth 100000


open Go.RowKit Go.Shelf

set_option maxRecDepth 100000

open Host (H mayH showH HostAt)

open Six (arr zero8)

theorem may_form (k : Int) (s : ByteArray) (n : Int) (p : List Int) : mayH ⟨k, s, n, p⟩ = (if k = 1 then Host.domB s.data.toList && ((n == 0) && decide (p = zero8)) else if k = 2 then s.toList.isEmpty && (decide (0 ≤ n) && (decide (n ≤ 4294967295) && decide (p = zero8))) else if k = 3 then s.toList.isEmpty && ((n == 0) && Six.mayP p) else false) := by
  have he : (s.toList == (⟨#[]⟩ : ByteArray).toList) = s.toList.isEmpty := by
    rw [Path.tl, Path.tl]
    cases s.data.toList <;> rfl
  unfold mayH Host.sameH Four.fitsB
  by_cases h1 : k = 1
  · subst h1
    simp only [if_true, beq_self_eq_true, Bool.true_and]
    cases Host.domB s.data.toList <;> cases (n == 0) <;> cases decide (p = zero8) <;> rfl
  · rw [if_neg h1, if_neg h1]
    by_cases h2 : k = 2
    · subst h2
      simp only [if_true, beq_self_eq_true, Bool.true_and, he]
      cases s.toList.isEmpty <;> cases decide (0 ≤ n) <;> cases decide (n ≤ 4294967295) <;> cases decide (p = zero8) <;> rfl
    · rw [if_neg h2, if_neg h2]
      by_cases h3 : k = 3
      · subst h3
        simp only [if_true, beq_self_eq_true, Bool.true_and, he, decide_true, Bool.and_true]
        cases s.toList.isEmpty <;> cases (n == 0) <;> cases Six.mayP p <;> rfl
      · rw [if_neg h3, if_neg h3]

set_option maxHeartbeats 8000000 in
theorem refHostMay_any (h : H) (h8 : h.p.length = 8) (hs : h.s.size ≤ 1000) (b : Bool) (hb : mayH h = b) (w : World) :
    Calls Tryz.prog 74 #[.agg h.cells] w fun e w' => e = .returned (.bool b) ∧ Below w.heap.size w w' := by
  have HX := Lib.hid (show Below w.heap.size w (w.alloc (.cells h.cells 24)) from (Below.refl _ w).alloc (Nat.le_refl _) _)
  have HR0 := Lib.hid (HostAt.new w h)
  obtain ⟨k, s, n, p⟩ := h
  have H8 := Lib.hid (show (H.mk k s n p).p.length = 8 from h8)
  rw [may_form] at hb
  obtain ⟨D, hD⟩ : ∃ D, Host.domB s.data.toList = D := ⟨_, rfl⟩
  obtain ⟨M, hM⟩ : ∃ D, Six.mayP p = D := ⟨_, rfl⟩
  obtain ⟨Z, hZ⟩ : ∃ D, decide (p = zero8) = D := ⟨_, rfl⟩
  obtain ⟨N0, hN0⟩ : ∃ D, (n == 0) = D := ⟨_, rfl⟩
  obtain ⟨G1, hG1⟩ : ∃ D, decide (0 ≤ n) = D := ⟨_, rfl⟩
  obtain ⟨G2, hG2⟩ : ∃ D, decide (n ≤ 4294967295) = D := ⟨_, rfl⟩
  obtain ⟨E, hE⟩ : ∃ D, s.toList.isEmpty = D := ⟨_, rfl⟩
  rw [hD, hM, hZ, hN0, hG1, hG2, hE] at hb
  have CN := Lib.hid (fun u => Show.refName_any s (by have : s.size ≤ 1000 := hs; omega) D hD u)
  have CM := Lib.hid (fun u => Six.refMay_any p h8 M hM u)
  have heq : ∀ v, (Op.equalIn 10000 22 (.agg (arr p)) (.agg #[.int .i64 0, .int .i64 0, .int .i64 0, .int .i64 0, .int .i64 0, .int .i64 0, .int .i64 0, .int .i64 0])).run Tryz.prog v = .ok Z v := fun v => Six.eq22 p zero8 h8 rfl Z hZ v
  have HEQ := Lib.hid heq
  have HN0 := Lib.hid hN0
  have HG1 := Lib.hid hG1
  have HG2 := Lib.hid hG2
  have HE := Lib.hid hE
  have HB := Lib.hid hb
  clear heq hD hM hZ hN0 hG1 hG2 hE h8 hs hb
  have c1 := HR0.out.cell 1
  rw [show (H.cells ⟨k, s, n, p⟩)[1]? = some (.string s) from rfl] at c1
  go_enter Tryz.func74, Tryz.ntmps74
  go_wp2_with fail
  generalize w.alloc (.cells (H.cells ⟨k, s, n, p⟩) 24) = X0 at HX HR0 c1 ⊢
  refine (CN.out _).mono ?_
  rintro e X ⟨rfl, rfl⟩
  clear c1 CN
  have hsix := HR0.out.six H8.out
  go_wp2_with ((with_reducible refine Host.wp_load_at (o := ⟨some 9, .load 22 (.tmp 8), _, _, _, _⟩) ?_ 22 (.tmp 8) ?_ ⟨w.heap.size, 3, none⟩ ?_ (.agg (arr p)) hsix ?_); (· rfl); (· rfl); (· rfl); simp only [Act.put, List.setIfInBounds_toArray, List.set_cons_zero, List.set_cons_succ])
  refine (CM.out _).mono ?_
  rintro e X1 ⟨rfl, hB⟩
  have HR1 := Lib.hid (HR0.out.later hB)
  have HB1 := Lib.hid hB
  clear hB CM hsix HR0
  have c0 := HR1.out.cell 0
  rw [show (H.cells ⟨k, s, n, p⟩)[0]? = some (.int .i64 k) from rfl] at c0
  have c1 := HR1.out.cell 1
  rw [show (H.cells ⟨k, s, n, p⟩)[1]? = some (.string s) from rfl] at c1
  have c2 := HR1.out.cell 2
  rw [show (H.cells ⟨k, s, n, p⟩)[2]? = some (.int .i64 n) from rfl] at c2
  have hsix := HR1.out.six H8.out
  have heq := HEQ.out
  have hN0 := HN0.out
  have hG1 := HG1.out
  have hG2 := HG2.out
  have hE := HE.out
  have hb := HB.out
  by_cases h1 : k = 1
  · subst h1
    rw [if_pos rfl] at hb
    subst hb
    clear HEQ HN0 HG1 HG2 HE HB hG1 hG2 hE
    cases D <;> cases N0 <;> cases Z
    all_goals
      go_wp2_with ((with_reducible refine Host.wp_load_at (o := ⟨some 23, .load 22 (.tmp 22), _, _, _, _⟩) ?_ 22 (.tmp 22) ?_ ⟨w.heap.size, 3, none⟩ ?_ (.agg (arr p)) hsix ?_); (· rfl); (· rfl); (· rfl); simp only [Act.put, List.setIfInBounds_toArray, List.set_cons_zero, List.set_cons_succ])
      go_ret
      exact ⟨rfl, HX.out.trans (HB1.out.mono HX.out.size)⟩
  rw [if_neg h1] at hb
  have k1 : (k == 1) = false := beq_eq_false_iff_ne.2 h1
  by_cases h2 : k = 2
  · subst h2
    rw [if_pos rfl] at hb
    subst hb
    clear HEQ HN0 HG1 HG2 HE HB hN0 h1
    cases E <;> cases G1 <;> cases G2 <;> cases Z
    all_goals
      go_wp2_with ((with_reducible refine Host.wp_load_at (o := ⟨some 44, .load 22 (.tmp 43), _, _, _, _⟩) ?_ 22 (.tmp 43) ?_ ⟨w.heap.size, 3, none⟩ ?_ (.agg (arr p)) hsix ?_); (· rfl); (· rfl); (· rfl); simp only [Act.put, List.setIfInBounds_toArray, List.set_cons_zero, List.set_cons_succ])
      go_ret
      exact ⟨rfl, HX.out.trans (HB1.out.mono HX.out.size)⟩
  rw [if_neg h2] at hb
  have k2 : (k == 2) = false := beq_eq_false_iff_ne.2 h2
  by_cases h3 : k = 3
  · subst h3
    rw [if_pos rfl] at hb
    subst hb
    clear HEQ HN0 HG1 HG2 HE HB hG1 hG2 h1 h2 heq
    cases E <;> cases N0 <;> cases M
    all_goals
      go_wp2
      go_ret
      exact ⟨rfl, HX.out.trans (HB1.out.mono HX.out.size)⟩
  rw [if_neg h3] at hb
  have k3 : (k == 3) = false := beq_eq_false_iff_ne.2 h3
  subst hb
  clear HEQ HN0 HG1 HG2 HE HB hG1 hG2 h1 h2 h3 heq hN0 hE
  go_wp2
  go_ret
  exact ⟨rfl, HX.out.trans (HB1.out.mono HX.out.size)⟩

set_option maxHeartbeats 8000000 in
theorem refHostShow_any (h : H) (h8 : h.p.length = 8) (hs : h.s.size ≤ 1000) (x : ByteArray) (hx : tb (showH h) = x) (w : World) :
    Calls Tryz.prog 48 #[.agg h.cells] w fun e w' => e = .returned (.string x) ∧ Below w.heap.size w w' := by
  have HX := Lib.hid (show Below w.heap.size w (w.alloc (.cells h.cells 24)) from (Below.refl _ w).alloc (Nat.le_refl _) _)
  have HR0 := Lib.hid (HostAt.new w h)
  obtain ⟨b, hb⟩ : ∃ b, mayH h = b := ⟨_, rfl⟩
  have CM := Lib.hid (fun u => refHostMay_any h h8 hs b hb u)
  have hw := Host.may_ways h
  obtain ⟨k, s, n, p⟩ := h
  have H8 := Lib.hid (show (H.mk k s n p).p.length = 8 from h8)
  have HW := Lib.hid hw
  have HBe := Lib.hid hb
  have HXe := Lib.hid hx
  clear hw hb hx
  have hl := HR0.out
  go_enter Tryz.func48, Tryz.ntmps48
  go_wp2_with ((with_reducible refine Host.wp_load24 (o := ⟨some 4, .load 24 (.tmp 1), _, _, _, _⟩) ?_ (.tmp 1) ?_ w.heap.size ?_ ⟨k, s, n, p⟩ H8.out hl ?_); (· rfl); (· rfl); (· rfl); simp only [Act.put, List.setIfInBounds_toArray, List.set_cons_zero, List.set_cons_succ])
  clear hl
  generalize w.alloc (.cells (H.cells ⟨k, s, n, p⟩) 24) = X0 at HX HR0 ⊢
  refine (CM.out _).mono ?_
  rintro e X1 ⟨rfl, hB⟩
  have HR1 := Lib.hid (HR0.out.later hB)
  have HB1 := Lib.hid (HX.out.trans (hB.mono HX.out.size))
  clear hB CM HR0
  cases b
  · have e : (⟨#[]⟩ : ByteArray) = x := by
      rw [← HXe.out]; unfold showH; rw [HBe.out]; rfl
    have HE := Lib.hid e
    clear e
    go_wp2
    go_ret
    exact ⟨by rw [← HE.out]; rfl, HB1.out⟩
  have c0 := HR1.out.cell 0
  rw [show (H.cells ⟨k, s, n, p⟩)[0]? = some (.int .i64 k) from rfl] at c0
  have c1 := HR1.out.cell 1
  rw [show (H.cells ⟨k, s, n, p⟩)[1]? = some (.string s) from rfl] at c1
  have c2 := HR1.out.cell 2
  rw [show (H.cells ⟨k, s, n, p⟩)[2]? = some (.int .i64 n) from rfl] at c2
  have hsix := HR1.out.six H8.out
  have hwy := HW.out HBe.out
  have hx := HXe.out
  clear HW HXe HBe
  rcases hwy with ⟨e, _, es⟩ | ⟨n', _, e, es⟩ | ⟨e, hm, es⟩
  · rw [es] at hx
    have ek : k = 1 := congrArg H.k e
    subst ek
    have hx2 : s = x := by rw [← hx]; exact (tb_of s).symm
    subst hx2
    clear hx e es
    go_wp2
    go_ret
    exact ⟨rfl, HB1.out⟩
  · rw [es] at hx
    have ek : k = 2 := congrArg H.k e
    have en : n = n' := congrArg H.n e
    subst ek
    have CF := Lib.hid (fun u => Four.refShowF_at n x (by rw [← hx, en]; unfold Four.showF; rw [if_pos (by unfold Four.fitsB; simp; omega)]; rfl) u)
    clear hx e es en
    go_wp2_with fail
    refine (CF.out _).mono ?_
    rintro e X2 ⟨rfl, hB⟩
    have HB2 := Lib.hid (Ascii.below2 HB1.out hB)
    clear hB CF
    go_wp2
    go_ret
    exact ⟨rfl, HB2.out⟩
  · rw [es] at hx
    have ek : k = 3 := congrArg H.k e
    subst ek
    obtain ⟨S, hS⟩ : ∃ S, tb (Six.showS p) = S := ⟨_, rfl⟩
    have CF := Lib.hid (fun u => Six.refShow_any p h8 S hS u)
    have hSs : S.size ≤ 39 := by rw [size_tb hS]; exact Six.show_len39 p h8 hm
    have HF := Lib.hid (show (⟨#[91]⟩ : ByteArray) ++ S ++ ⟨#[93]⟩ = x from by
      rw [← hx]
      apply ByteArray.ext
      apply Array.toList_inj.1
      show ((⟨#[91]⟩ : ByteArray) ++ S ++ ⟨#[93]⟩).data.toList = _
      rw [Path.text_append, Path.text_append, list_tb hS, tb_list]; simp)
    clear hx e es hS hm
    go_wp2_with ((with_reducible refine Host.wp_load_at (o := ⟨some 20, .load 22 (.tmp 19), _, _, _, _⟩) ?_ 22 (.tmp 19) ?_ ⟨w.heap.size, 3, none⟩ ?_ (.agg (arr p)) hsix ?_); (· rfl); (· rfl); (· rfl); simp only [Act.put, List.setIfInBounds_toArray, List.set_cons_zero, List.set_cons_succ])
    refine (CF.out _).mono ?_
    rintro e X2 ⟨rfl, hB⟩
    have HB2 := Lib.hid (Ascii.below2 HB1.out hB)
    clear hB CF
    go_wp2
    rw [HF.out]
    go_ret
    exact ⟨rfl, HB2.out⟩

end Go.Proofs.YtlkikfdbjpjpaaaGreatDoor.Url
