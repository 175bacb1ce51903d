/-
  show's Door.
-/
import Derived.Test.YtkjkcgbmfglihaaGreatDoorSHBare
namespace Go.Proofs.YtkjkcgbmfglihaaGreatDoor.Show
open Go.RowKit Go.Shelf
open Url
open Host (none0 showH)
open Path (Strs)
set_option linter.unusedSimpArgs false
set_option linter.unusedVariables false
set_option maxRecDepth 100000

theorem host_len (u : U) (hf : Fit u) : (showH u.h).length ≤ 100 := by
  cases hm : Host.mayH u.h
  · unfold Host.showH; rw [hm]; exact Nat.zero_le _
  · exact (Host.show_back u.h hf.h8 hm).2.2.2
theorem port_len (u : U) (h : u.port ≤ 9223372036854775807) (h0 : -9223372036854775808 ≤ u.port) : (Deci.showI u.port).length ≤ 20 := (Deci.showI_len u.port h0 h).1
set_option maxHeartbeats 16000000 in
theorem door_any (u : U) (pv : Value) (hf : Fit u) (x : ByteArray) (hx : tb (doorU u) = x) (m : Int) (w : World) (hm : Six.At m w) (hs : Strs w pv u.path) :
    Calls Tryz.prog 31 #[.agg (cU u pv)] w fun e w' => e = .returned (.string x) ∧ Below w.heap.size w w' := by
  have H8 := hf.h8
  have HB0 := Lib.hid (show Below w.heap.size w (w.alloc (.cells (cU u pv) 27)) from (Below.refl _ w).alloc (Nat.le_refl _) _)
  have HU := Lib.hid (UrlAt.new w u pv)
  have HM := Lib.hid (hm.later HB0.out)
  have HS := Lib.hid (hs.later HB0.out)
  obtain ⟨b, hb⟩ : ∃ b, mayU u = b := ⟨_, rfl⟩
  obtain ⟨c, hc⟩ : ∃ c, (!decide (webI u.sch = 0)) = c := ⟨_, rfl⟩
  have CM := Lib.hid (fun v hm hs => may_any u pv hf b hb m v hm hs)
  have CW := Lib.hid (fun v => ofWeb_any u pv H8 c hc v)
  unfold doorU at hx
  rw [hb, hc] at hx
  have HD := Lib.hid (show b = true → c = true → -1 ≤ u.port ∧ u.port ≤ 65535 from fun h1 h2 => by
    rcases (may_parts (hb.trans h1)).2 with ⟨_, k⟩ | ⟨e, _⟩
    · exact ⟨k.p1, k.p2⟩
    · rw [e] at hc; rw [← hc] at h2; cases h2)
  clear hb hc hm hs
  cases b
  · subst hx
    go_enter Tryz.func31, Tryz.ntmps31
    go_wp2_with ((with_reducible refine wp_load27 (o := ⟨some 6, .load 27 (.tmp 1), _, _, _, _⟩) ?_ (.tmp 1) ?_ w.heap.size ?_ u pv H8 HU.out ?_); (· rfl); (· rfl); (· rfl); simp only [Act.put, List.setIfInBounds_toArray, List.set_cons_zero, List.set_cons_succ])
    generalize w.alloc (.cells (cU u pv) 27) = W at HB0 HU HM HS ⊢
    refine (CM.out _ HM.out HS.out).mono ?_
    rintro e u1 ⟨rfl, hB1⟩
    go_wp2
    go_ret
    exact ⟨rfl, Ascii.below2 HB0.out hB1⟩
  cases c
  · subst hx
    go_enter Tryz.func31, Tryz.ntmps31
    go_wp2_with ((with_reducible refine wp_load27 (o := ⟨some 6, .load 27 (.tmp 1), _, _, _, _⟩) ?_ (.tmp 1) ?_ w.heap.size ?_ u pv H8 HU.out ?_); (· rfl); (· rfl); (· rfl); simp only [Act.put, List.setIfInBounds_toArray, List.set_cons_zero, List.set_cons_succ])
    generalize w.alloc (.cells (cU u pv) 27) = W at HB0 HU HM HS ⊢
    refine (CM.out _ HM.out HS.out).mono ?_
    rintro e u1 ⟨rfl, hB1⟩
    have hU1 := HU.out.later hB1
    go_wp2_with ((with_reducible refine wp_load27 (o := ⟨some 10, .load 27 (.tmp 1), _, _, _, _⟩) ?_ (.tmp 1) ?_ w.heap.size ?_ u pv H8 hU1 ?_); (· rfl); (· rfl); (· rfl); simp only [Act.put, List.setIfInBounds_toArray, List.set_cons_zero, List.set_cons_succ])
    refine (CW.out _).mono ?_
    rintro e u2 ⟨rfl, hB2⟩
    go_wp2
    go_ret
    exact ⟨rfl, Ascii.below3 HB0.out hB1 hB2⟩
  · obtain ⟨hp1, hp2⟩ := HD.out rfl rfl
    rw [Bool.and_self, if_pos rfl] at hx
    have HH := Lib.hid (host_len u hf)
    have HPL := Lib.hid (port_len u (by omega) (by omega))
    obtain ⟨hh, hhe⟩ : ∃ hh, showH u.h = hh := ⟨_, rfl⟩
    have CH := Lib.hid (fun v hv => Host.show_in u.h H8 (by have := hf.hs; omega) (tb hh) (by rw [hhe]; rfl) m v hv)
    obtain ⟨pp, hpp⟩ : ∃ pp, Deci.showI u.port = pp := ⟨_, rfl⟩
    have CP := Lib.hid (fun v => Deci.show_calls u.port (by omega) (by omega) v)
    rw [hpp] at CP HPL
    rw [hhe] at HH
    unfold doorT portT at hx
    rw [hhe, hpp] at hx
    have HX := Lib.hid hx
    clear HD hhe hpp hx
    go_enter Tryz.func31, Tryz.ntmps31
    go_wp2_with ((with_reducible refine wp_load27 (o := ⟨some 6, .load 27 (.tmp 1), _, _, _, _⟩) ?_ (.tmp 1) ?_ w.heap.size ?_ u pv H8 HU.out ?_); (· rfl); (· rfl); (· rfl); simp only [Act.put, List.setIfInBounds_toArray, List.set_cons_zero, List.set_cons_succ])
    generalize w.alloc (.cells (cU u pv) 27) = W at HB0 HU HM HS ⊢
    refine (CM.out _ HM.out HS.out).mono ?_
    rintro e u1 ⟨rfl, hB1⟩
    have hU1 := HU.out.later hB1
    go_wp2_with ((with_reducible refine wp_load27 (o := ⟨some 10, .load 27 (.tmp 1), _, _, _, _⟩) ?_ (.tmp 1) ?_ w.heap.size ?_ u pv H8 hU1 ?_); (· rfl); (· rfl); (· rfl); simp only [Act.put, List.setIfInBounds_toArray, List.set_cons_zero, List.set_cons_succ])
    refine (CW.out _).mono ?_
    rintro e u2 ⟨rfl, hB2⟩
    have HB2 := Lib.hid (Ascii.below3 HB0.out hB1 hB2)
    have HU2 := Lib.hid (hU1.later hB2)
    have HM2 := Lib.hid ((HM.out.later hB1).later hB2)
    clear hU1 hB1 hB2 CM CW HM HS HU HB0
    go_wp2_with fail
    refine (ifThere_any _ _).mono ?_
    rintro e u3 ⟨rfl, rfl⟩
    have HO := Lib.hid (out_new HB2.out HU2.out)
    have HM3 := Lib.hid (HM2.out.later (((Below.refl u2.heap.size u2).alloc (Nat.le_refl _) (.cells #[.pointer none, .slice none 0 0] 64)).alloc (by have : (u2.alloc (.cells #[.pointer none, .slice none 0 0] 64)).heap.size = u2.heap.size + 1 := Array.size_push _; omega) (.cells #[putV u2.heap.size] 65)))
    rw [show (u2.alloc (.cells #[.pointer none, .slice none 0 0] 64)).heap.size = u2.heap.size + 1 from Array.size_push _]
    generalize (u2.alloc (.cells #[.pointer none, .slice none 0 0] 64)).alloc (.cells #[putV u2.heap.size] 65) = u3 at HO HM3 ⊢
    generalize u2.heap.size = gb at HO ⊢
    clear HB2 HU2 HM2
    have hUl := HO.out.url
    go_wp2_with ((with_reducible refine wp_load24u (o := ⟨some 19, .load 24 (.tmp 18), _, _, _, _⟩) ?_ (.tmp 18) ?_ w.heap.size ?_ u pv H8 hUl ?_); (· rfl); (· rfl); (· rfl); simp only [Act.put, List.setIfInBounds_toArray, List.set_cons_zero, List.set_cons_succ])
    clear hUl
    refine (CH.out _ HM3.out).mono ?_
    rintro e u4 ⟨rfl, hB4⟩
    have HO4 := Lib.hid (HO.out.later hB4)
    clear hB4 HO CH HM3
    go_wp2_with fail
    refine (put_out HO4.out hh (by have := HH.out; simp; omega)).mono ?_
    rintro e u5 ⟨rfl, hO5, _⟩
    rw [List.nil_append] at hO5
    have HO5 := Lib.hid hO5
    clear hO5 HO4
    go_wp2_with fail
    have hS : UrlAt u5.drew w.heap.size u pv := HO5.out.url
    have c14 := (cU_at u pv H8).2.2.2.2.1
    refine wp_region_held_drew (S := fun W => UrlAt W w.heap.size u pv) (by kernel_rfl) hS (fun _ => ?_)
    refine wpAnyH_take (i := 0) (oi := ⟨some 22, .move (.tmp 5), _, _, _, _⟩) (v := .func (.func 104) #[] #[.pointer (some ⟨gb + 1, 0, none⟩)]) rfl (by kernel_rfl) (by kernel_rfl) (by kernel_rfl) (fun _ _ _ h => h) (Or.inl ⟨by rfl, ?_⟩) (by assumption) ?_
    · (intro v hv; go_simp)
    simp only [Act.put, List.setIfInBounds_toArray, List.set_cons_zero, List.set_cons_succ]
    refine wpAnyH_take (i := 1) (oi := ⟨some 23, .fieldAddr 27 (.tmp 1) 4, _, _, _, _⟩) (v := .pointer (some ⟨w.heap.size, 14, none⟩)) rfl (by kernel_rfl) (by kernel_rfl) (by kernel_rfl) (fun _ _ _ h => h) (Or.inl ⟨by rfl, ?_⟩) (by assumption) ?_
    · (intro v hv; go_simp)
    simp only [Act.put, List.setIfInBounds_toArray, List.set_cons_zero, List.set_cons_succ]
    refine wpAnyH_take (i := 2) (oi := ⟨some 24, .load 3 (.tmp 23), _, _, _, _⟩) (v := .int .i64 u.port) rfl (by kernel_rfl) (by kernel_rfl) (by kernel_rfl) (fun _ _ _ h => h) (Or.inl ⟨by rfl, ?_⟩) (by assumption) ?_
    · (exact fun v hv => run_load_of 3 (.tmp 23) ⟨w.heap.size, 14, none⟩ rfl (.int .i64 u.port) (load3 ((hv.cell 14).trans c14)))
    simp only [Act.put, List.setIfInBounds_toArray, List.set_cons_zero, List.set_cons_succ]
    refine wpAnyH_take (i := 3) (oi := ⟨some 25, .binOp .neq 3 (.tmp 24) (.const (.int .i64 (-1)))  3, _, _, _, _⟩) (v := .bool (u.port != -1)) rfl (by kernel_rfl) (by kernel_rfl) (by kernel_rfl) (fun _ _ _ h => h) (Or.inl ⟨by rfl, ?_⟩) (by assumption) ?_
    · (intro v hv; go_simp)
    simp only [Act.put, List.setIfInBounds_toArray, List.set_cons_zero, List.set_cons_succ]
    refine wpAnyH_take (i := 4) (oi := ⟨some 26, .fieldAddr 27 (.tmp 1) 4, _, _, _, _⟩) (v := .pointer (some ⟨w.heap.size, 14, none⟩)) rfl (by kernel_rfl) (by kernel_rfl) (by kernel_rfl) (fun _ _ _ h => h) (Or.inl ⟨by rfl, ?_⟩) (by assumption) ?_
    · (intro v hv; go_simp)
    simp only [Act.put, List.setIfInBounds_toArray, List.set_cons_zero, List.set_cons_succ]
    refine wpAnyH_take (i := 5) (oi := ⟨some 27, .load 3 (.tmp 26), _, _, _, _⟩) (v := .int .i64 u.port) rfl (by kernel_rfl) (by kernel_rfl) (by kernel_rfl) (fun _ _ _ h => h) (Or.inl ⟨by rfl, ?_⟩) (by assumption) ?_
    · (exact fun v hv => run_load_of 3 (.tmp 26) ⟨w.heap.size, 14, none⟩ rfl (.int .i64 u.port) (load3 ((hv.cell 14).trans c14)))
    simp only [Act.put, List.setIfInBounds_toArray, List.set_cons_zero, List.set_cons_succ]
    refine wpAnyH_ready (rs := [6]) (by kernel_rfl) (by simp) ?_
    refine AllReadyH.cons (o := ⟨some 28, .call ⟨.value (.func 71), #[.tmp 27], _⟩, _, _, _, _⟩) rfl (fun K hK => ?_) AllReadyH.nil
    go_simp
    go_at_call 71
    refine (CP.out _).mono ?_
    rintro e u6 ⟨rfl, hB6⟩
    have HO6 := Lib.hid ((show Out w w.heap.size gb (gb + 1) u pv hh u5.drew from HO5.out.later (Below.refl _ _).drew).later hB6)
    refine hK.out _ _ HO6.out.url (fun hS => ?_)
    clear hK hB6
    refine wpAnyH_ready (rs := [7]) (by kernel_rfl) (by simp) ?_
    refine AllReadyH.cons (o := ⟨some 29, .buildSlice 25 2 _, _, _, _, _⟩) rfl (fun K hK => ?_) AllReadyH.nil
    go_simp
    refine hK.out _ _ (HO6.out.url.past _) (fun hS => ?_)
    clear hK
    refine wpAnyH_ready (rs := [8]) (by kernel_rfl) (by simp) ?_
    refine AllReadyH.cons (o := ⟨some 30, .call ⟨.value (.tmp 22), #[.tmp 25, .tmp 29], _⟩, _, _, _, _⟩) rfl (fun K hK => ?_) AllReadyH.nil
    go_simp
    go_at_call 104
    refine (putIf_out (u.port != -1) [[58], pp] (by simp) u6.heap.size 2 rfl (HO6.out.later ((Below.refl u6.heap.size u6).alloc (Nat.le_refl _) _)) (heap_alloc_new u6 _) (by have := HH.out; have := HPL.out; simp; omega)).mono ?_
    rintro e u7 ⟨rfl, hO7⟩
    refine hK.out _ _ hO7.url (fun hS => ?_)
    clear hK
    have HT : (⟨(hh ++ if (u.port != -1) = true then [[58], pp].flatten else []).toArray⟩ : ByteArray) = x := by
      rw [← HX.out]
      by_cases hp : u.port = -1
      · rw [hp]; rfl
      · rw [if_neg hp, if_pos (by simpa using hp)]; simp [tb]
    generalize (hh ++ if (u.port != -1) = true then [[58], pp].flatten else []) = L at hO7 HT
    have HO7 := Lib.hid hO7
    clear hO7 HO6 HO5
    refine wpAnyH_done (by kernel_rfl) ?_ _
    go_wp2_with fail
    refine (Tryz.Builder_String_any_f w.heap.size gb L u7 HO7.out.bld HO7.out.bel.size).mono ?_
    rintro e u8 ⟨rfl, _, hB8⟩
    go_wp2
    go_ret
    exact ⟨rfl, HO7.out.bel.trans hB8⟩
end Go.Proofs.YtkjkcgbmfglihaaGreatDoor.Show
