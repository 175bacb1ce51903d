/-
  The document's Show of layer 10.
-/
import Derived.Test.YtkjkcgbmfglihaaGreatDoorSHRefD
namespace Go.Proofs.YtkjkcgbmfglihaaGreatDoor.Url
open Go.RowKit Go.Shelf
set_option linter.unusedSimpArgs false
set_option linter.unusedVariables false
set_option maxRecDepth 100000
open Host (H mayH showH)
open Go.Proofs.YtkjkcgbmfglihaaGreatDoor.Show
set_option maxHeartbeats 16000000 in
theorem refShow_any (u : U) (pv : Value) (hf : Fit u) (hpn : u.path.length ≤ 1000) (hp : ∀ t ∈ u.path, t.length ≤ 1000) (hw : -9223372036854775808 ≤ u.port ∧ u.port ≤ 9223372036854775807) (x : ByteArray) (hx : tb (showU u) = x) (w : World) (hs : Path.Strs w pv u.path) :
    Calls Tryz.prog 30 #[.agg (cU u pv)] w fun e w' => e = .returned (.string x) ∧ Below w.heap.size w w' := by
  have HX := Lib.hid (show Below w.heap.size w (w.alloc (.cells (cU u pv) 27)) from (Below.refl w.heap.size w).alloc (Nat.le_refl _) _)
  have HU0 := Lib.hid (UrlAt.new w u pv)
  have HS0 := Lib.hid (hs.later HX.out)
  have H8 := Lib.hid hf.h8
  have hp3 : ∀ t ∈ u.path, t.length ≤ 30000 := fun t ht => by have := hp t ht; omega
  obtain ⟨b, hb⟩ : ∃ b, mayU u = b := ⟨_, rfl⟩
  obtain ⟨z, hz⟩ : ∃ b, webI u.sch = b := ⟨_, rfl⟩
  obtain ⟨N, hN⟩ : ∃ b, tb u.sch = b := ⟨_, rfl⟩
  obtain ⟨Q, hQ⟩ : ∃ b, tb u.opq = b := ⟨_, rfl⟩
  obtain ⟨Y, hY⟩ : ∃ b, tb u.qry = b := ⟨_, rfl⟩
  obtain ⟨F, hF⟩ : ∃ b, tb u.frg = b := ⟨_, rfl⟩
  obtain ⟨A, hA⟩ : ∃ b, tb (userT u) = b := ⟨_, rfl⟩
  obtain ⟨D, hD⟩ : ∃ b, tb (doorU u) = b := ⟨_, rfl⟩
  obtain ⟨P, hP⟩ : ∃ b, tb (Path.show1 u.path) = b := ⟨_, rfl⟩
  obtain ⟨bq, hbq⟩ : ∃ b, u.hq = b := ⟨_, rfl⟩
  obtain ⟨bf, hbf⟩ : ∃ b, u.hf = b := ⟨_, rfl⟩
  have CM := Lib.hid (fun x hx => refMay_any u pv hf hp3 b hb x hx)
  have CW := Lib.hid (fun x => refWeb_any N z (by rw [list_tb hN]; exact hz) x)
  have CA := Lib.hid (fun x => refUser_any u pv hf A hA x)
  have CD := Lib.hid (fun x hx => refDoor_any u pv hf hp3 hw D hD x hx)
  have CP := Lib.hid (fun x hx => refPathShow_any pv u.path hpn hp P hP x hx)
  have sN : N.size ≤ 1000000 := by rw [size_tb hN]; exact hf.sch
  have sQ : Q.size ≤ 1000000 := by rw [size_tb hQ]; exact hf.opq
  have sY : Y.size ≤ 1000000 := by rw [size_tb hY]; exact hf.qry
  have sF : F.size ≤ 1000000 := by rw [size_tb hF]; exact hf.frg
  have sA : A.size ≤ 2000010 := by
    rw [size_tb hA]
    have h2 := hf.usr
    have h3 := hf.pas
    unfold userT
    split
    · exact Nat.zero_le _
    · split <;> simp <;> omega
  have sD : D.size ≤ 200 := by
    rw [size_tb hD]
    have h7 := host_len u hf
    unfold doorU
    split
    · unfold doorT portT
      rw [List.length_append]
      split
      · simp; omega
      · have := port_len u hw.2 hw.1
        rw [List.length_cons]; omega
    · exact Nat.zero_le _
  have sP : P.size ≤ 1001000 := by
    rw [size_tb hP]
    have h1 := show_le 1000 u.path hp
    have h2 : u.path.length * (1000 + 1) ≤ 1000 * 1001 := Nat.mul_le_mul_right _ hpn
    omega
  obtain ⟨K, hK⟩ : ∃ b, tb (u.sch ++ 58 :: midT u) = b := ⟨_, rfl⟩
  have HK0 := Lib.hid (show z = 0 → N ++ ⟨#[58]⟩ ++ Q = K from fun h => by
    apply ByteArray.ext
    apply Array.toList_inj.1
    show (N ++ ⟨#[58]⟩ ++ Q).data.toList = _
    rw [← hK, tb_list, Path.text_append, Path.text_append, list_tb hN, list_tb hQ]; unfold midT; rw [hz, if_pos h]; simp)
  have HK1 := Lib.hid (show b = true → z ≠ 0 → N ++ ⟨#[58]⟩ ++ ⟨#[47, 47]⟩ ++ A ++ D ++ P = K from fun k h => by
    apply ByteArray.ext
    apply Array.toList_inj.1
    show (N ++ ⟨#[58]⟩ ++ ⟨#[47, 47]⟩ ++ A ++ D ++ P).data.toList = _
    have e : doorU u = doorT u := by unfold doorU; rw [hb, k, hz, decide_eq_false h]; rfl
    rw [← hK, tb_list, Path.text_append, Path.text_append, Path.text_append, Path.text_append, Path.text_append, list_tb hN, list_tb hA, list_tb hD, list_tb hP, e]; unfold midT restT; rw [hz, if_neg h]; simp)
  have sK : K.size ≤ 10000000 := by
    by_cases h : z = 0
    · rw [← HK0.out h]
      show (N ++ ⟨#[58]⟩ ++ Q).data.toList.length ≤ _
      rw [Path.text_append, Path.text_append, List.length_append, List.length_append, size_list, size_list]
      show N.size + 1 + Q.size ≤ _
      omega
    · cases b
      · rw [size_tb hK]
        unfold midT
        rw [hz, if_neg h]
        have e1 : (userT u).length ≤ 2000010 := by rw [← size_tb hA]; exact sA
        have e2 : (Path.show1 u.path).length ≤ 1001000 := by rw [← size_tb hP]; exact sP
        have e3 := host_len u hf
        have e4 : (portT u).length ≤ 21 := by
          unfold portT
          split
          · exact Nat.zero_le _
          · have := port_len u hw.2 hw.1
            rw [List.length_cons]; omega
        have e5 := hf.sch
        unfold restT doorT
        simp only [List.length_cons, List.length_append]
        omega
      · rw [← HK1.out rfl h]
        show (N ++ ⟨#[58]⟩ ++ ⟨#[47, 47]⟩ ++ A ++ D ++ P).data.toList.length ≤ _
        rw [Path.text_append, Path.text_append, Path.text_append, Path.text_append, Path.text_append]
        simp only [List.length_append, size_list]
        show N.size + 1 + 2 + A.size + D.size + P.size ≤ _
        omega
  have hX : b = true → x.data.toList = K.data.toList ++ ((if bq then 63 :: Y.data.toList else []) ++ (if bf then 35 :: F.data.toList else [])) := fun h => by
    rw [← hx, tb_list, list_tb hK, list_tb hY, list_tb hF, ← hbq, ← hbf]
    unfold showU
    rw [hb, if_pos h]
    show u.sch ++ 58 :: (midT u ++ (qT u ++ fT u)) = (u.sch ++ 58 :: midT u) ++ (qT u ++ fT u)
    simp
  have HX1 := Lib.hid hX
  have HF0 := Lib.hid (show b = false → (⟨#[]⟩ : ByteArray) = x from fun h => by rw [← hx]; unfold showU; rw [hb, h]; rfl)
  have KN := Lib.hid hN
  have KQ := Lib.hid hQ
  have KY := Lib.hid hY
  have KF := Lib.hid hF
  have Kq := Lib.hid hbq
  have Kf := Lib.hid hbf
  clear hb hz hN hQ hY hF hA hD hP hbq hbf hK hX hx hf hp hp3 hpn hw hs
  have hu := HU0.out
  go_enter Tryz.func30, Tryz.ntmps30
  go_wp2_with ((with_reducible refine wp_load27 (o := ⟨some 5, .load 27 (.tmp 1), _, _, _, _⟩) ?_ (.tmp 1) ?_ w.heap.size ?_ u pv H8.out hu ?_); (· rfl); (· rfl); (· rfl); simp only [Act.put, List.setIfInBounds_toArray, List.set_cons_zero, List.set_cons_succ])
  clear hu
  generalize w.alloc (.cells (cU u pv) 27) = X0 at HX HU0 HS0 ⊢
  refine (CM.out _ HS0.out).mono ?_
  rintro e X1 ⟨rfl, hB⟩
  have HB1 := Lib.hid (hB)
  have HU1 := Lib.hid (HU0.out.later hB)
  have HS1 := Lib.hid (HS0.out.later hB)
  clear HU0 HS0
  clear hB CM
  cases b
  · have HE := Lib.hid (HF0.out rfl)
    clear HF0 HK0 HK1 HX1
    go_wp2
    go_ret
    exact ⟨by rw [← HE.out]; rfl, HX.out.trans (HB1.out.mono HX.out.size)⟩
  have c0 := HU1.out.cell 0
  rw [(cU_at u _ H8.out).1, KN.out] at c0
  go_wp2_with fail
  refine (CW.out _).mono ?_
  rintro e X ⟨rfl, rfl⟩
  clear c0 CW HF0
  have HX2 := Lib.hid (HX1.out (by first | rfl | trivial))
  clear HX1
  by_cases z0 : z = 0
  · have q0 : (z == 0) = true := by rw [z0]; rfl
    have HKe := Lib.hid (HK0.out z0)
    have c16 := HU1.out.cell 16
    rw [(cU_at u _ H8.out).2.2.2.2.2.2.1, KQ.out] at c16
    clear HK0 HK1 CA CD CP z0
    go_upto_region 8 with fail
    rw [HKe.out]
    clear c16 q0 sQ sN sA sD sP HKe
    have c17 := HU1.out.cell 17
    rw [(cU_at u _ H8.out).2.2.2.2.2.2.2.1, KY.out] at c17
    have c18 := HU1.out.cell 18
    rw [(cU_at u _ H8.out).2.2.2.2.2.2.2.2.1, KF.out] at c18
    have c19 := HU1.out.cell 19
    rw [(cU_at u _ H8.out).2.2.2.2.2.2.2.2.2.1, Kq.out] at c19
    have c20 := HU1.out.cell 20
    rw [(cU_at u _ H8.out).2.2.2.2.2.2.2.2.2.2, Kf.out] at c20
    clear KY KF Kq Kf KN KQ
    cases bq <;> cases bf
    · have HE := Lib.hid (show K = x from by
        apply ByteArray.ext
        apply Array.toList_inj.1
        rw [HX2.out]; simp)
      clear HX2
      go_wp2
      rw [HE.out]
      go_ret
      exact ⟨rfl, HX.out.trans (HB1.out.mono HX.out.size)⟩
    · have HE := Lib.hid (show K ++ ⟨#[35]⟩ ++ F = x from by
        apply ByteArray.ext
        apply Array.toList_inj.1
        show (K ++ ⟨#[35]⟩ ++ F).data.toList = x.data.toList
        rw [HX2.out, Path.text_append, Path.text_append]; simp)
      clear HX2
      go_wp2
      rw [HE.out]
      go_ret
      exact ⟨rfl, HX.out.trans (HB1.out.mono HX.out.size)⟩
    · have HE := Lib.hid (show K ++ ⟨#[63]⟩ ++ Y = x from by
        apply ByteArray.ext
        apply Array.toList_inj.1
        show (K ++ ⟨#[63]⟩ ++ Y).data.toList = x.data.toList
        rw [HX2.out, Path.text_append, Path.text_append]; simp)
      clear HX2
      go_wp2
      rw [HE.out]
      go_ret
      exact ⟨rfl, HX.out.trans (HB1.out.mono HX.out.size)⟩
    · have HE := Lib.hid (show K ++ ⟨#[63]⟩ ++ Y ++ ⟨#[35]⟩ ++ F = x from by
        apply ByteArray.ext
        apply Array.toList_inj.1
        show (K ++ ⟨#[63]⟩ ++ Y ++ ⟨#[35]⟩ ++ F).data.toList = x.data.toList
        rw [HX2.out, Path.text_append, Path.text_append, Path.text_append, Path.text_append]; simp)
      clear HX2
      go_wp2
      rw [HE.out]
      go_ret
      exact ⟨rfl, HX.out.trans (HB1.out.mono HX.out.size)⟩
  have q0 : (z == 0) = false := beq_eq_false_iff_ne.2 z0
  have HKe := Lib.hid (HK1.out (by first | rfl | trivial) z0)
  clear HK0 HK1 z0
  go_wp2_with fail
  have LU := Lib.hid (q_url HU1.out H8.out)
  have LL := Lib.hid (q_pth HU1.out H8.out)
  refine Ascii.wp_region_quiet_below (by kernel_rfl) (by kernel_rfl) ?_
  iterate 2 (go_big_quiet_step ((intro _; rfl)))
  ((go_big_quiet_want; (with_reducible refine Host.quiet_load (o := ⟨some 22, .load 27 (.tmp 1), _, _, _, _⟩) 27 (.tmp 1) ?_ _ ?_ _ LU.out ?_); (· rfl); (· rfl)); go_big_quiet_on; simp only [Act.put, List.setIfInBounds_toArray, List.set_cons_succ, List.set_cons_zero])
  go_big_quiet_step ((intro hu; go_at_call 69; exact (CA.out _).mono fun e u' h => ⟨h.1, hu.trans (h.2.mono hu.size)⟩))
  iterate 1 (go_big_quiet_step ((intro _; rfl)))
  ((go_big_quiet_want; (with_reducible refine Host.quiet_load (o := ⟨some 25, .load 27 (.tmp 1), _, _, _, _⟩) 27 (.tmp 1) ?_ _ ?_ _ LU.out ?_); (· rfl); (· rfl)); go_big_quiet_on; simp only [Act.put, List.setIfInBounds_toArray, List.set_cons_succ, List.set_cons_zero])
  go_big_quiet_step ((intro hu; go_at_call 32; exact (CD.out _ (HS1.out.later hu)).mono fun e u' h => ⟨h.1, hu.trans (h.2.mono hu.size)⟩))
  iterate 2 (go_big_quiet_step ((intro _; rfl)))
  ((go_big_quiet_want; (with_reducible refine Host.quiet_load (o := ⟨some 29, .load 25 (.tmp 28), _, _, _, _⟩) 25 (.tmp 28) ?_ _ ?_ _ LL.out ?_); (· rfl); (· rfl)); go_big_quiet_on; simp only [Act.put, List.setIfInBounds_toArray, List.set_cons_succ, List.set_cons_zero])
  go_big_quiet_step ((intro hu; go_at_call 70; exact (CP.out _ (HS1.out.later hu)).mono fun e u' h => ⟨h.1, h.2 ▸ hu⟩))
  repeat (go_big_quiet_step ((intro _; rfl)))
  refine wpQuiet_nil ?_
  intro y hB
  rw [HKe.out]
  clear LU LL q0 sQ sN sA sD sP HKe CA CD CP
  have HB2 := Lib.hid (below_trans HB1.out hB)
  have HU2 := Lib.hid (HU1.out.later hB)
  have HS2 := Lib.hid (HS1.out.later hB)
  clear HB1 HU1 HS1
  clear hB
  have c17 := HU2.out.cell 17
  rw [(cU_at u _ H8.out).2.2.2.2.2.2.2.1, KY.out] at c17
  have c18 := HU2.out.cell 18
  rw [(cU_at u _ H8.out).2.2.2.2.2.2.2.2.1, KF.out] at c18
  have c19 := HU2.out.cell 19
  rw [(cU_at u _ H8.out).2.2.2.2.2.2.2.2.2.1, Kq.out] at c19
  have c20 := HU2.out.cell 20
  rw [(cU_at u _ H8.out).2.2.2.2.2.2.2.2.2.2, Kf.out] at c20
  clear KY KF Kq Kf KN KQ
  cases bq <;> cases bf
  · have HE := Lib.hid (show K = x from by
      apply ByteArray.ext
      apply Array.toList_inj.1
      rw [HX2.out]; simp)
    clear HX2
    go_wp2
    rw [HE.out]
    go_ret
    exact ⟨rfl, HX.out.trans (HB2.out.mono HX.out.size)⟩
  · have HE := Lib.hid (show K ++ ⟨#[35]⟩ ++ F = x from by
      apply ByteArray.ext
      apply Array.toList_inj.1
      show (K ++ ⟨#[35]⟩ ++ F).data.toList = x.data.toList
      rw [HX2.out, Path.text_append, Path.text_append]; simp)
    clear HX2
    go_wp2
    rw [HE.out]
    go_ret
    exact ⟨rfl, HX.out.trans (HB2.out.mono HX.out.size)⟩
  · have HE := Lib.hid (show K ++ ⟨#[63]⟩ ++ Y = x from by
      apply ByteArray.ext
      apply Array.toList_inj.1
      show (K ++ ⟨#[63]⟩ ++ Y).data.toList = x.data.toList
      rw [HX2.out, Path.text_append, Path.text_append]; simp)
    clear HX2
    go_wp2
    rw [HE.out]
    go_ret
    exact ⟨rfl, HX.out.trans (HB2.out.mono HX.out.size)⟩
  · have HE := Lib.hid (show K ++ ⟨#[63]⟩ ++ Y ++ ⟨#[35]⟩ ++ F = x from by
      apply ByteArray.ext
      apply Array.toList_inj.1
      show (K ++ ⟨#[63]⟩ ++ Y ++ ⟨#[35]⟩ ++ F).data.toList = x.data.toList
      rw [HX2.out, Path.text_append, Path.text_append, Path.text_append, Path.text_append]; simp)
    clear HX2
    go_wp2
    rw [HE.out]
    go_ret
    exact ⟨rfl, HX.out.trans (HB2.out.mono HX.out.size)⟩
end Go.Proofs.YtkjkcgbmfglihaaGreatDoor.Url
