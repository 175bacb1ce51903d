/-
  The document's Parse of hosts.
-/
import Derived.Test.YtkjkcgbmfglihaaGreatDoorSHRefB
import Derived.Test.YtkjkcgbmfglihaaGreatDoorSHPath
namespace Go.Proofs.YtkjkcgbmfglihaaGreatDoor.Url
open Go.RowKit Go.Shelf
set_option linter.unusedSimpArgs false
set_option linter.unusedVariables false
set_option maxRecDepth 100000
open Host (H mayH showH HostAt okH parH brkB inner none0)
open Six (arr zero8)
theorem ret_hp {tmps : Array Value} {W : World} (g : Nat) (h : H) (h8 : h.p.length = 8) (b : Bool) (hp : tmps.getD 2 undef = .pointer (some ⟨g, 0, none⟩)) (hb : tmps.getD 3 undef = .bool b) (hr : HostAt W g h) :
    (results Tryz.f85 tmps).run Tryz.prog W = .ok (.tuple #[.agg h.cells, .bool b]) W := by
  have hp' : tmps[2]?.getD undef = .pointer (some ⟨g, 0, none⟩) := by simpa using hp
  have hb' : tmps[3]?.getD undef = .bool b := by simpa using hb
  simp [results, Tryz.results85, hp', hb', asAddr, hr.load h8]
theorem brk_ways (s : ByteArray) :
    (brkB s.data.toList = true ∧ ∃ (h : 1 < s.size), s[0] = 91 ∧ s[s.size - 1] = 93 ∧ s.extract 1 (s.size - 1) = tb (inner s.data.toList)) ∨
    (brkB s.data.toList = false ∧ s.size ≤ 1) ∨ (brkB s.data.toList = false ∧ ∃ (h : 1 < s.size), s[0] ≠ 91) ∨ (brkB s.data.toList = false ∧ ∃ (h : 1 < s.size), s[0] = 91 ∧ s[s.size - 1] ≠ 93) := by
  cases e : brkB s.data.toList
  · right
    by_cases h1 : 1 < s.size
    · right
      by_cases h0 : s[0] = 91
      · right
        refine ⟨rfl, h1, h0, fun hl => ?_⟩
        have : brkB s.data.toList = true := by
          rw [Host.brk_iff]
          refine ⟨(s.data.toList.drop 1).take (s.size - 2), ?_⟩
          have e1 := Pct.drop_cons s 0 (by omega)
          rw [List.drop_zero, h0] at e1
          have e4 : s.data.toList.drop s.size = [] := List.drop_of_length_le (Nat.le_refl _)
          have e3 : (s.data.toList.drop 1).drop (s.size - 2) = [93] := by
            rw [List.drop_drop, show 1 + (s.size - 2) = s.size - 1 by omega, Pct.drop_cons s (s.size - 1) (by omega), hl, show s.size - 1 + 1 = s.size by omega, e4]
          have e2 : s.data.toList.drop 1 = (s.data.toList.drop 1).take (s.size - 2) ++ [93] := by
            conv => lhs; rw [← List.take_append_drop (s.size - 2) (s.data.toList.drop 1), e3]
          rw [← e2]; exact e1
        rw [this] at e; cases e
      · exact .inl ⟨rfl, h1, h0⟩
    · exact .inl ⟨rfl, by omega⟩
  · left
    obtain ⟨x, hx⟩ := (Host.brk_iff _).1 e
    have hl : s.size = x.length + 2 := by rw [← size_list, hx]; simp
    have h1 : 1 < s.size := by omega
    refine ⟨rfl, h1, ?_, ?_, ?_⟩
    · have : s.data.toList[0]? = some 91 := by rw [hx]; rfl
      obtain ⟨_, h⟩ := List.getElem?_eq_some_iff.1 this
      exact h
    · have : s.data.toList[s.size - 1]? = some 93 := by
        rw [hx, hl, show x.length + 2 - 1 = x.length + 1 by omega, List.getElem?_cons_succ, List.getElem?_append_right (Nat.le_refl _), Nat.sub_self]; rfl
      obtain ⟨_, h⟩ := List.getElem?_eq_some_iff.1 this
      exact h
    · rw [piece_mid]
      unfold inner
      rw [size_list]
set_option maxHeartbeats 16000000 in
theorem refHostParse_any (s : ByteArray) (hs : s.size ≤ 30000) (h : H) (b : Bool) (hh : parH s.data.toList = h) (hb : okH s.data.toList = b) (w : World) :
    Calls Tryz.prog 85 #[.string s] w fun e w' => e = .returned (.tuple #[.agg h.cells, .bool b]) ∧ Below w.heap.size w w' := by
  have HX := Lib.hid (show Below w.heap.size w (w.alloc (.cells none0.cells 24)) from (Below.refl _ w).alloc (Nat.le_refl _) _)
  have HR0 := Lib.hid (HostAt.new w none0)
  have HZ0 := Lib.hid (show (#[.int .i64 0, .string ⟨#[]⟩, .int .i64 0, .int .i64 0, .int .i64 0, .int .i64 0, .int .i64 0, .int .i64 0, .int .i64 0, .int .i64 0, .int .i64 0] : Array Value) = none0.cells from rfl)
  have HH := Lib.hid hh
  have HB := Lib.hid hb
  clear hh hb
  rcases brk_ways s with ⟨hbr, h1, e0, e1, px⟩ | hno
  · have h8 : (Six.parI (inner s.data.toList)).length = 8 := Host.parI_len _
    obtain ⟨x, hx⟩ : ∃ x, tb (inner s.data.toList) = x := ⟨_, rfl⟩
    obtain ⟨p, hp⟩ : ∃ x, Six.parI (inner s.data.toList) = x := ⟨_, rfl⟩
    obtain ⟨c, hc⟩ : ∃ x, Six.parB (inner s.data.toList) = x := ⟨_, rfl⟩
    have hxs : x.size ≤ 30000 := by
      rw [size_tb hx]; unfold inner; rw [List.length_drop, List.length_take, size_list]; omega
    have CS := Lib.hid (fun u => Six.refParse_any x (by omega) p c (by rw [list_tb hx]; exact hp) (by rw [list_tb hx]; exact hc) u)
    have HC0 := Lib.hid (show c = false → b = false ∧ h = none0 from fun e => by
      have ho : okH s.data.toList = false := by unfold okH; rw [if_pos hbr, hc, e]
      exact ⟨by rw [← HB.out, ho], by rw [← HH.out]; unfold parH; rw [ho]; rfl⟩)
    have HC1 := Lib.hid (show c = true → b = true ∧ h = ⟨3, ⟨#[]⟩, 0, p⟩ from fun e => by
      have ho : okH s.data.toList = true := by unfold okH; rw [if_pos hbr, hc, e]
      exact ⟨by rw [← HB.out, ho], by rw [← HH.out]; unfold parH; rw [if_pos ho, if_pos hbr, hp]⟩)
    rw [hx] at px
    rw [hp] at h8
    have q0 : decide ((1 : Int) < (s.size : Int)) = true := decide_eq_true (by omega)
    have q1 : ((s[0].toNat : Int) == 91) = true := by rw [e0]; rfl
    have q2 : ((s[s.size - 1].toNat : Int) == 93) = true := by rw [e1]; rfl
    clear hx hp hc e0 e1 hbr HH HB hxs
    obtain ⟨a0, a1, a2, a3, a4, a5, a6, a7, rfl⟩ := eight h8
    clear h8
    go_enter Tryz.func85, Tryz.ntmps85
    go_wp2_with fail
    rw [HZ0.out]
    generalize w.alloc (.cells none0.cells 24) = W at HX HR0 ⊢
    refine (CS.out _).mono ?_
    rintro e u1 ⟨rfl, hB1⟩
    have HB1 := Lib.hid hB1
    have hBn : Below u1.heap.size u1 ((u1.alloc (.cells #[.int .i64 0, .int .i64 0, .int .i64 0, .int .i64 0, .int .i64 0, .int .i64 0, .int .i64 0, .int .i64 0] 22)).setRow u1.heap.size (arr [a0, a1, a2, a3, a4, a5, a6, a7])) := Six.below_setRow ((Below.refl _ u1).alloc (Nat.le_refl _) (.cells #[.int .i64 0, .int .i64 0, .int .i64 0, .int .i64 0, .int .i64 0, .int .i64 0, .int .i64 0, .int .i64 0] 22)) (Nat.le_refl _) _
    have hz22 : Six.RowAt (u1.alloc (.cells #[.int .i64 0, .int .i64 0, .int .i64 0, .int .i64 0, .int .i64 0, .int .i64 0, .int .i64 0, .int .i64 0] 22)) u1.heap.size zero8 := Six.RowAt.new u1 zero8
    have HR := Lib.hid (show Six.RowAt ((u1.alloc (.cells #[.int .i64 0, .int .i64 0, .int .i64 0, .int .i64 0, .int .i64 0, .int .i64 0, .int .i64 0, .int .i64 0] 22)).setRow u1.heap.size (arr [a0, a1, a2, a3, a4, a5, a6, a7])) u1.heap.size [a0, a1, a2, a3, a4, a5, a6, a7] from hz22.row [a0, a1, a2, a3, a4, a5, a6, a7])
    have HA := Lib.hid (show arr [a0, a1, a2, a3, a4, a5, a6, a7] = #[.int .i64 a0, .int .i64 a1, .int .i64 a2, .int .i64 a3, .int .i64 a4, .int .i64 a5, .int .i64 a6, .int .i64 a7] from rfl)
    have k8 : ([a0, a1, a2, a3, a4, a5, a6, a7] : List Int).length = 8 := rfl
    have z8 : zero8.length = 8 := rfl
    have HB2 := Lib.hid (below_trans hB1 hBn)
    have HR2 := Lib.hid ((HR0.out.later hB1).later hBn)
    clear hB1 hBn CS HR0 HB1 q0 q1 q2 px
    cases c
    · obtain ⟨rfl, rfl⟩ := HC0.out rfl
      clear HC0 HC1
      have HRn := Lib.hid (HR2.out.row none0)
      go_wp2_with (first
        | ((with_reducible refine Six.wp_store22 (o := ⟨none, .store 22 (.tmp 5) (.tmp 34), _, _, _, _⟩) ?_ (.tmp 5) (.tmp 34) ?_ u1.heap.size ?_ [a0, a1, a2, a3, a4, a5, a6, a7] ?_ k8 zero8 z8 hz22 ?_); (· rfl); (· rfl); (· rfl); (· rfl); simp only [Act.put, List.setIfInBounds_toArray, List.set_cons_zero, List.set_cons_succ])
        | refine Host.wp_store24 (o := ⟨none, .store 24 (.tmp 2) (.tmp 38), _, _, _, _⟩) rfl _ _ rfl w.heap.size rfl none0 rfl rfl none0 rfl HR2.out ?_)
      exact bodyPost_ret (ret_hp w.heap.size none0 rfl false rfl rfl HRn.out) rfl ⟨rfl, below_row (HX.out.trans (HB2.out.mono HX.out.size)) (Nat.le_refl _) _⟩
    · obtain ⟨rfl, rfl⟩ := HC1.out rfl
      clear HC0 HC1
      have HRn := Lib.hid (HR2.out.row ⟨3, ⟨#[]⟩, 0, [a0, a1, a2, a3, a4, a5, a6, a7]⟩)
      go_wp2_with (first
        | ((with_reducible refine Six.wp_store22 (o := ⟨none, .store 22 (.tmp 5) (.tmp 34), _, _, _, _⟩) ?_ (.tmp 5) (.tmp 34) ?_ u1.heap.size ?_ [a0, a1, a2, a3, a4, a5, a6, a7] ?_ k8 zero8 z8 hz22 ?_); (· rfl); (· rfl); (· rfl); (· rfl); simp only [Act.put, List.setIfInBounds_toArray, List.set_cons_zero, List.set_cons_succ])
        | ((with_reducible refine Six.wp_load22 (o := ⟨some 39, .load 22 (.tmp 5), _, _, _, _⟩) ?_ (.tmp 5) ?_ u1.heap.size ?_ [a0, a1, a2, a3, a4, a5, a6, a7] k8 HR.out ?_); (· rfl); (· rfl); (· rfl); simp only [Act.put, List.setIfInBounds_toArray, List.set_cons_zero, List.set_cons_succ]; rw [HA.out])
        | refine Host.wp_store24 (o := ⟨none, .store 24 (.tmp 2) (.tmp 40), _, _, _, _⟩) rfl _ _ rfl w.heap.size rfl ⟨3, ⟨#[]⟩, 0, [a0, a1, a2, a3, a4, a5, a6, a7]⟩ rfl rfl none0 rfl HR2.out ?_)
      exact bodyPost_ret (ret_hp w.heap.size ⟨3, ⟨#[]⟩, 0, [a0, a1, a2, a3, a4, a5, a6, a7]⟩ rfl true rfl rfl HRn.out) rfl ⟨rfl, below_row (HX.out.trans (HB2.out.mono HX.out.size)) (Nat.le_refl _) _⟩
  have hbr : brkB s.data.toList = false := by rcases hno with ⟨a, _⟩ | ⟨a, _⟩ | ⟨a, _⟩ <;> exact a
  obtain ⟨lk, hlk⟩ : ∃ x, Four.lookB s.data.toList = x := ⟨_, rfl⟩
  obtain ⟨n, hn⟩ : ∃ x, Four.parI s.data.toList = x := ⟨_, rfl⟩
  obtain ⟨f, hf⟩ : ∃ x, Four.parB s.data.toList = x := ⟨_, rfl⟩
  obtain ⟨Lw, hL⟩ : ∃ x, tb (Ascii.lower s.data.toList) = x := ⟨_, rfl⟩
  obtain ⟨D, hD⟩ : ∃ x, Host.domB (Ascii.lower s.data.toList) = x := ⟨_, rfl⟩
  have hLs : Lw.size ≤ 30000 := by rw [size_tb hL]; simp only [Ascii.lower, List.length_map]; rw [size_list]; exact hs
  have CK := Lib.hid (fun u => Four.refLooks_at s (by omega) lk hlk u)
  have CF := Lib.hid (fun u => Four.refParse_at s (by omega) n f hn hf u)
  have CL := Lib.hid (fun u => show Calls Tryz.prog 52 #[.string s] u fun e w' => e = .returned (.string Lw) ∧ Below u.heap.size u w' from hL ▸ Ascii.refLower_big s hs u)
  have CN := Lib.hid (fun u => Show.refName_any Lw (by omega) D (by rw [list_tb hL]; exact hD) u)
  have HF0 := Lib.hid (show lk = true → f = false → b = false ∧ h = none0 from fun k e => by
    have ho : okH s.data.toList = false := by unfold okH; rw [hbr, hlk, k, hf, e]; rfl
    exact ⟨by rw [← HB.out, ho], by rw [← HH.out]; unfold parH; rw [ho]; rfl⟩)
  have HF1 := Lib.hid (show lk = true → f = true → b = true ∧ h = ⟨2, ⟨#[]⟩, n, zero8⟩ from fun k e => by
    have ho : okH s.data.toList = true := by unfold okH; rw [hbr, hlk, k, hf, e]; rfl
    exact ⟨by rw [← HB.out, ho], by rw [← HH.out]; unfold parH; rw [if_pos ho, hbr, hlk, k, hn]; rfl⟩)
  have HD0 := Lib.hid (show lk = false → D = false → b = false ∧ h = none0 from fun k e => by
    have ho : okH s.data.toList = false := by unfold okH; rw [hbr, hlk, k, hD, e]; rfl
    exact ⟨by rw [← HB.out, ho], by rw [← HH.out]; unfold parH; rw [ho]; rfl⟩)
  have HD1 := Lib.hid (show lk = false → D = true → b = true ∧ h = ⟨1, Lw, 0, zero8⟩ from fun k e => by
    have ho : okH s.data.toList = true := by unfold okH; rw [hbr, hlk, k, hD, e]; rfl
    exact ⟨by rw [← HB.out, ho], by rw [← HH.out]; unfold parH; rw [if_pos ho, hbr, hlk, k]; rw [← hL]; rfl⟩)
  have hno : (decide ((1 : Int) < (s.size : Int)) = false ∧ decide (1 < s.size) = false) ∨ (∃ (h : 0 < s.size), decide ((1 : Int) < (s.size : Int)) = true ∧ 1 < s.size ∧ ((s[0].toNat : Int) == 91) = false) ∨ (∃ (h : 1 < s.size), decide ((1 : Int) < (s.size : Int)) = true ∧ ((s[0].toNat : Int) == 91) = true ∧ ((s[s.size - 1].toNat : Int) == 93) = false) := by
    rcases hno with ⟨_, a⟩ | ⟨_, a, c⟩ | ⟨_, a, c, d⟩
    · exact .inl ⟨decide_eq_false (by omega), decide_eq_false (by omega)⟩
    · exact .inr (.inl ⟨by omega, decide_eq_true (by omega), a, beq_eq_false_iff_ne.2 (fun q => c (UInt8.toNat_inj.1 (by simpa using (by omega : s[0].toNat = 91))))⟩)
    · exact .inr (.inr ⟨a, decide_eq_true (by omega), by rw [c]; rfl, beq_eq_false_iff_ne.2 (fun q => d (UInt8.toNat_inj.1 (by simpa using (by omega : s[s.size - 1].toNat = 93))))⟩)
  clear hbr hlk hn hf hL hD hLs HH HB
  rcases hno with ⟨q0, q0'⟩ | ⟨h0, q0, h1, q1⟩ | ⟨h1, q0, q1, q2⟩
  all_goals
    go_enter Tryz.func85, Tryz.ntmps85
    go_wp2_with fail
    rw [HZ0.out]
    generalize w.alloc (.cells none0.cells 24) = W at HX HR0 ⊢
    refine (CK.out _).mono ?_
    rintro e u1 ⟨rfl, rfl⟩
    cases lk
    · go_wp2_with fail
      refine (CL.out _).mono ?_
      rintro e u1 ⟨rfl, hB1⟩
      have HB1 := Lib.hid (HX.out.trans (hB1.mono HX.out.size))
      have HR1 := Lib.hid (HR0.out.later hB1)
      clear hB1 HR0 CL CF CK
      go_wp2_with fail
      refine (CN.out _).mono ?_
      rintro e u2 ⟨rfl, rfl⟩
      cases D
      · obtain ⟨rfl, rfl⟩ := HD0.out (by first | rfl | trivial) (by first | rfl | trivial)
        clear HD0 HD1 HF0 HF1
        have HRn := Lib.hid (HR1.out.row none0)
        go_wp2_with (refine Host.wp_store24 (o := ⟨none, .store 24 (.tmp 2) (.tmp 60), _, _, _, _⟩) rfl _ _ rfl w.heap.size rfl none0 rfl rfl none0 rfl HR1.out ?_)
        exact bodyPost_ret (ret_hp w.heap.size none0 rfl false rfl rfl HRn.out) rfl ⟨rfl, below_row HB1.out (Nat.le_refl _) _⟩
      · obtain ⟨rfl, rfl⟩ := HD1.out (by first | rfl | trivial) (by first | rfl | trivial)
        clear HD0 HD1 HF0 HF1
        have HRn := Lib.hid (HR1.out.row ⟨1, Lw, 0, zero8⟩)
        go_wp2_with (refine Host.wp_store24 (o := ⟨none, .store 24 (.tmp 2) (.tmp 62), _, _, _, _⟩) rfl _ _ rfl w.heap.size rfl ⟨1, Lw, 0, zero8⟩ rfl rfl none0 rfl HR1.out ?_)
        exact bodyPost_ret (ret_hp w.heap.size ⟨1, Lw, 0, zero8⟩ rfl true rfl rfl HRn.out) rfl ⟨rfl, below_row HB1.out (Nat.le_refl _) _⟩
    · go_wp2_with fail
      refine (CF.out _).mono ?_
      rintro e u1 ⟨rfl, hB1⟩
      have HB1 := Lib.hid (HX.out.trans (hB1.mono HX.out.size))
      have HR1 := Lib.hid (HR0.out.later hB1)
      clear hB1 HR0 CL CF CK CN
      cases f
      · obtain ⟨rfl, rfl⟩ := HF0.out (by first | rfl | trivial) (by first | rfl | trivial)
        clear HD0 HD1 HF0 HF1
        have HRn := Lib.hid (HR1.out.row none0)
        go_wp2_with (refine Host.wp_store24 (o := ⟨none, .store 24 (.tmp 2) (.tmp 51), _, _, _, _⟩) rfl _ _ rfl w.heap.size rfl none0 rfl rfl none0 rfl HR1.out ?_)
        exact bodyPost_ret (ret_hp w.heap.size none0 rfl false rfl rfl HRn.out) rfl ⟨rfl, below_row HB1.out (Nat.le_refl _) _⟩
      · obtain ⟨rfl, rfl⟩ := HF1.out (by first | rfl | trivial) (by first | rfl | trivial)
        clear HD0 HD1 HF0 HF1
        have HRn := Lib.hid (HR1.out.row ⟨2, ⟨#[]⟩, n, zero8⟩)
        go_wp2_with (refine Host.wp_store24 (o := ⟨none, .store 24 (.tmp 2) (.tmp 53), _, _, _, _⟩) rfl _ _ rfl w.heap.size rfl ⟨2, ⟨#[]⟩, n, zero8⟩ rfl rfl none0 rfl HR1.out ?_)
        exact bodyPost_ret (ret_hp w.heap.size ⟨2, ⟨#[]⟩, n, zero8⟩ rfl true rfl rfl HRn.out) rfl ⟨rfl, below_row HB1.out (Nat.le_refl _) _⟩
end Go.Proofs.YtkjkcgbmfglihaaGreatDoor.Url
