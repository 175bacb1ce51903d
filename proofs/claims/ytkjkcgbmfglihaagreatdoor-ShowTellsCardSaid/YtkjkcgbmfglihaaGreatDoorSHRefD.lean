/-
  The document's functions of layer 10: Bare, Open, user, Door.
-/
import Derived.Test.YtkjkcgbmfglihaaGreatDoorSHRefC
import Derived.Test.YtkjkcgbmfglihaaGreatDoorSHSize
namespace Go.Proofs.YtkjkcgbmfglihaaGreatDoor.Url
open Go.RowKit Go.Shelf
set_option linter.unusedSimpArgs false
set_option linter.unusedVariables false
set_option maxRecDepth 100000
open Host (H mayH showH)
open Go.Proofs.YtkjkcgbmfglihaaGreatDoor.Show
set_option maxHeartbeats 8000000 in
theorem refBare_any (u : U) (pv : Value) (h8 : u.h.p.length = 8) (w : World) (hs : Path.Strs w pv u.path) : Calls Tryz.prog 26 #[.agg (cU u pv)] w fun e w' => e = .returned (.agg (cU (bareU u) pv)) ∧ Below w.heap.size w w' := by
  have hs1 : (w.alloc (.cells (cU u pv) 27)).heap.size = w.heap.size + 1 := Array.size_push _
  have hone := strs_one hs
  have HU := Lib.hid ((UrlAt.new w u pv).past (.cells #[.string ⟨#[]⟩, .string ⟨#[]⟩, .string ⟨#[]⟩, .int .i64 0, .string ⟨#[]⟩, .int .i64 0, .int .i64 0, .int .i64 0, .int .i64 0, .int .i64 0, .int .i64 0, .int .i64 0, .int .i64 0, .int .i64 0, .int .i64 0, .slice none 0 0, .string ⟨#[]⟩, .string ⟨#[]⟩, .string ⟨#[]⟩, .bool false, .bool false] 27))
  have hz := new_url (w.alloc (.cells (cU u pv) 27))
  rw [hs1] at hz
  have HZ := Lib.hid hz
  have HB := Lib.hid (((Below.refl w.heap.size w).alloc (Nat.le_refl _) (.cells (cU u pv) 27)).alloc (by omega) (.cells #[.string ⟨#[]⟩, .string ⟨#[]⟩, .string ⟨#[]⟩, .int .i64 0, .string ⟨#[]⟩, .int .i64 0, .int .i64 0, .int .i64 0, .int .i64 0, .int .i64 0, .int .i64 0, .int .i64 0, .int .i64 0, .int .i64 0, .int .i64 0, .slice none 0 0, .string ⟨#[]⟩, .string ⟨#[]⟩, .string ⟨#[]⟩, .bool false, .bool false] 27))
  clear hs1 hz hs
  go_enter Tryz.func26, Tryz.ntmps26
  go_upto_region 1 with fail
  generalize ((w.alloc (.cells (cU u pv) 27)).alloc (.cells #[.string ⟨#[]⟩, .string ⟨#[]⟩, .string ⟨#[]⟩, .int .i64 0, .string ⟨#[]⟩, .int .i64 0, .int .i64 0, .int .i64 0, .int .i64 0, .int .i64 0, .int .i64 0, .int .i64 0, .int .i64 0, .int .i64 0, .int .i64 0, .slice none 0 0, .string ⟨#[]⟩, .string ⟨#[]⟩, .string ⟨#[]⟩, .bool false, .bool false] 27)) = V at HU HZ HB ⊢
  have f0 := HU.out.free 18
  have g0 := HU.out.cell 18
  rw [(cU_at u pv h8).2.2.2.2.2.2.2.2.1] at g0
  have k0 := Lib.hid (show UrlAt (V.setCell ⟨w.heap.size, 18, none⟩ (.string ⟨#[]⟩)) w.heap.size _ pv from (HU.out).frg h8 [])
  have z0 : UrlAt (V.setCell ⟨w.heap.size, 18, none⟩ (.string ⟨#[]⟩)) (w.heap.size + 1) none1 (.slice none 0 0) := by
    unfold UrlAt
    rw [Below.heap_setCell _ _ _ _ (by show w.heap.size + 1 ≠ w.heap.size; omega)]
    exact HZ.out
  have b0 := below_set HB.out (Nat.le_refl w.heap.size) 18 (.string ⟨#[]⟩)
  have f1 := HU.out.free 20
  have g1 := HU.out.cell 20
  rw [(cU_at u pv h8).2.2.2.2.2.2.2.2.2.2] at g1
  have k1 := Lib.hid (show UrlAt ((V.setCell ⟨w.heap.size, 18, none⟩ (.string ⟨#[]⟩)).setCell ⟨w.heap.size, 20, none⟩ (.bool false)) w.heap.size _ pv from UrlAt.hf (k0.out) h8 false)
  have z1 : UrlAt ((V.setCell ⟨w.heap.size, 18, none⟩ (.string ⟨#[]⟩)).setCell ⟨w.heap.size, 20, none⟩ (.bool false)) (w.heap.size + 1) none1 (.slice none 0 0) := by
    unfold UrlAt
    rw [Below.heap_setCell _ _ _ _ (by show w.heap.size + 1 ≠ w.heap.size; omega)]
    exact z0
  have b1 := below_set b0 (Nat.le_refl w.heap.size) 20 (.bool false)
  have HUx := Lib.hid (show UrlAt ((V.setCell ⟨w.heap.size, 18, none⟩ (.string ⟨#[]⟩)).setCell ⟨w.heap.size, 20, none⟩ (.bool false)) w.heap.size (bareU u) pv from k1.out)
  have HZx := Lib.hid z1
  have HBx := Lib.hid b1
  have H8d : (bareU u).h.p.length = 8 := h8
  clear k0 k1 z0 b0 z1 b1 HU HZ HB
  go_wp2_with (first | ((with_reducible refine wp_load27 (o := ⟨some 5, .load 27 (.tmp 1), _, _, _, _⟩) ?_ (.tmp 1) ?_ w.heap.size ?_ (bareU u) pv H8d HUx.out ?_); (· rfl); (· rfl); (· rfl); simp only [Act.put, List.setIfInBounds_toArray, List.set_cons_zero, List.set_cons_succ]) | ((with_reducible refine wp_store27 (o := ⟨none, .store 27 (.tmp 2) (.tmp 5), _, _, _, _⟩) ?_ (.tmp 2) (.tmp 5) ?_ (w.heap.size + 1) ?_ (bareU u) pv ?_ H8d hone none1 (.slice none 0 0) rfl HZx.out ?_); (· rfl); (· rfl); (· rfl); (· rfl); simp only [Act.put, List.setIfInBounds_toArray, List.set_cons_zero, List.set_cons_succ]))
  exact bodyPost_ret (ret_url rfl (w.heap.size + 1) (bareU u) pv H8d rfl (HZx.out.row (bareU u) pv)) rfl ⟨rfl, below_row HBx.out (Nat.le_succ w.heap.size) _⟩
set_option maxHeartbeats 8000000 in
theorem refOpen_any (u : U) (pv : Value) (h8 : u.h.p.length = 8) (w : World) (hs : Path.Strs w pv u.path) : Calls Tryz.prog 28 #[.agg (cU u pv)] w fun e w' => e = .returned (.agg (cU (openU u) pv)) ∧ Below w.heap.size w w' := by
  have hs1 : (w.alloc (.cells (cU u pv) 27)).heap.size = w.heap.size + 1 := Array.size_push _
  have hone := strs_one hs
  have HU := Lib.hid ((UrlAt.new w u pv).past (.cells #[.string ⟨#[]⟩, .string ⟨#[]⟩, .string ⟨#[]⟩, .int .i64 0, .string ⟨#[]⟩, .int .i64 0, .int .i64 0, .int .i64 0, .int .i64 0, .int .i64 0, .int .i64 0, .int .i64 0, .int .i64 0, .int .i64 0, .int .i64 0, .slice none 0 0, .string ⟨#[]⟩, .string ⟨#[]⟩, .string ⟨#[]⟩, .bool false, .bool false] 27))
  have hz := new_url (w.alloc (.cells (cU u pv) 27))
  rw [hs1] at hz
  have HZ := Lib.hid hz
  have HB := Lib.hid (((Below.refl w.heap.size w).alloc (Nat.le_refl _) (.cells (cU u pv) 27)).alloc (by omega) (.cells #[.string ⟨#[]⟩, .string ⟨#[]⟩, .string ⟨#[]⟩, .int .i64 0, .string ⟨#[]⟩, .int .i64 0, .int .i64 0, .int .i64 0, .int .i64 0, .int .i64 0, .int .i64 0, .int .i64 0, .int .i64 0, .int .i64 0, .int .i64 0, .slice none 0 0, .string ⟨#[]⟩, .string ⟨#[]⟩, .string ⟨#[]⟩, .bool false, .bool false] 27))
  clear hs1 hz hs
  go_enter Tryz.func28, Tryz.ntmps28
  go_upto_region 1 with fail
  generalize ((w.alloc (.cells (cU u pv) 27)).alloc (.cells #[.string ⟨#[]⟩, .string ⟨#[]⟩, .string ⟨#[]⟩, .int .i64 0, .string ⟨#[]⟩, .int .i64 0, .int .i64 0, .int .i64 0, .int .i64 0, .int .i64 0, .int .i64 0, .int .i64 0, .int .i64 0, .int .i64 0, .int .i64 0, .slice none 0 0, .string ⟨#[]⟩, .string ⟨#[]⟩, .string ⟨#[]⟩, .bool false, .bool false] 27)) = V at HU HZ HB ⊢
  have f0 := HU.out.free 18
  have g0 := HU.out.cell 18
  rw [(cU_at u pv h8).2.2.2.2.2.2.2.2.1] at g0
  have k0 := Lib.hid (show UrlAt (V.setCell ⟨w.heap.size, 18, none⟩ (.string ⟨#[]⟩)) w.heap.size _ pv from (HU.out).frg h8 [])
  have z0 : UrlAt (V.setCell ⟨w.heap.size, 18, none⟩ (.string ⟨#[]⟩)) (w.heap.size + 1) none1 (.slice none 0 0) := by
    unfold UrlAt
    rw [Below.heap_setCell _ _ _ _ (by show w.heap.size + 1 ≠ w.heap.size; omega)]
    exact HZ.out
  have b0 := below_set HB.out (Nat.le_refl w.heap.size) 18 (.string ⟨#[]⟩)
  have f1 := HU.out.free 20
  have g1 := HU.out.cell 20
  rw [(cU_at u pv h8).2.2.2.2.2.2.2.2.2.2] at g1
  have k1 := Lib.hid (show UrlAt ((V.setCell ⟨w.heap.size, 18, none⟩ (.string ⟨#[]⟩)).setCell ⟨w.heap.size, 20, none⟩ (.bool false)) w.heap.size _ pv from UrlAt.hf (k0.out) h8 false)
  have z1 : UrlAt ((V.setCell ⟨w.heap.size, 18, none⟩ (.string ⟨#[]⟩)).setCell ⟨w.heap.size, 20, none⟩ (.bool false)) (w.heap.size + 1) none1 (.slice none 0 0) := by
    unfold UrlAt
    rw [Below.heap_setCell _ _ _ _ (by show w.heap.size + 1 ≠ w.heap.size; omega)]
    exact z0
  have b1 := below_set b0 (Nat.le_refl w.heap.size) 20 (.bool false)
  have f2 := HU.out.free 1
  have g2 := HU.out.cell 1
  rw [(cU_at u pv h8).2.1] at g2
  have k2 := Lib.hid (show UrlAt (((V.setCell ⟨w.heap.size, 18, none⟩ (.string ⟨#[]⟩)).setCell ⟨w.heap.size, 20, none⟩ (.bool false)).setCell ⟨w.heap.size, 1, none⟩ (.string ⟨#[]⟩)) w.heap.size _ pv from at_usr (k1.out) h8 [])
  have z2 : UrlAt (((V.setCell ⟨w.heap.size, 18, none⟩ (.string ⟨#[]⟩)).setCell ⟨w.heap.size, 20, none⟩ (.bool false)).setCell ⟨w.heap.size, 1, none⟩ (.string ⟨#[]⟩)) (w.heap.size + 1) none1 (.slice none 0 0) := by
    unfold UrlAt
    rw [Below.heap_setCell _ _ _ _ (by show w.heap.size + 1 ≠ w.heap.size; omega)]
    exact z1
  have b2 := below_set b1 (Nat.le_refl w.heap.size) 1 (.string ⟨#[]⟩)
  have f3 := HU.out.free 2
  have g3 := HU.out.cell 2
  rw [(cU_at u pv h8).2.2.1] at g3
  have k3 := Lib.hid (show UrlAt ((((V.setCell ⟨w.heap.size, 18, none⟩ (.string ⟨#[]⟩)).setCell ⟨w.heap.size, 20, none⟩ (.bool false)).setCell ⟨w.heap.size, 1, none⟩ (.string ⟨#[]⟩)).setCell ⟨w.heap.size, 2, none⟩ (.string ⟨#[]⟩)) w.heap.size _ pv from at_pas (k2.out) h8 [])
  have z3 : UrlAt ((((V.setCell ⟨w.heap.size, 18, none⟩ (.string ⟨#[]⟩)).setCell ⟨w.heap.size, 20, none⟩ (.bool false)).setCell ⟨w.heap.size, 1, none⟩ (.string ⟨#[]⟩)).setCell ⟨w.heap.size, 2, none⟩ (.string ⟨#[]⟩)) (w.heap.size + 1) none1 (.slice none 0 0) := by
    unfold UrlAt
    rw [Below.heap_setCell _ _ _ _ (by show w.heap.size + 1 ≠ w.heap.size; omega)]
    exact z2
  have b3 := below_set b2 (Nat.le_refl w.heap.size) 2 (.string ⟨#[]⟩)
  have HUx := Lib.hid (show UrlAt ((((V.setCell ⟨w.heap.size, 18, none⟩ (.string ⟨#[]⟩)).setCell ⟨w.heap.size, 20, none⟩ (.bool false)).setCell ⟨w.heap.size, 1, none⟩ (.string ⟨#[]⟩)).setCell ⟨w.heap.size, 2, none⟩ (.string ⟨#[]⟩)) w.heap.size (openU u) pv from k3.out)
  have HZx := Lib.hid z3
  have HBx := Lib.hid b3
  have H8d : (openU u).h.p.length = 8 := h8
  clear k0 k1 k2 k3 z0 b0 z1 b1 z2 b2 z3 b3 HU HZ HB
  go_wp2_with (first | ((with_reducible refine wp_load27 (o := ⟨some 7, .load 27 (.tmp 1), _, _, _, _⟩) ?_ (.tmp 1) ?_ w.heap.size ?_ (openU u) pv H8d HUx.out ?_); (· rfl); (· rfl); (· rfl); simp only [Act.put, List.setIfInBounds_toArray, List.set_cons_zero, List.set_cons_succ]) | ((with_reducible refine wp_store27 (o := ⟨none, .store 27 (.tmp 2) (.tmp 7), _, _, _, _⟩) ?_ (.tmp 2) (.tmp 7) ?_ (w.heap.size + 1) ?_ (openU u) pv ?_ H8d hone none1 (.slice none 0 0) rfl HZx.out ?_); (· rfl); (· rfl); (· rfl); (· rfl); simp only [Act.put, List.setIfInBounds_toArray, List.set_cons_zero, List.set_cons_succ]))
  exact bodyPost_ret (ret_url rfl (w.heap.size + 1) (openU u) pv H8d rfl (HZx.out.row (openU u) pv)) rfl ⟨rfl, below_row HBx.out (Nat.le_succ w.heap.size) _⟩
set_option maxHeartbeats 4000000 in
theorem refUser_any (u : U) (pv : Value) (hf : Fit u) (x : ByteArray) (hx : tb (userT u) = x) (w : World) : Calls Tryz.prog 69 #[.agg (cU u pv)] w fun e w' => e = .returned (.string x) ∧ Below w.heap.size w w' := by
  have HX := Lib.hid (show Below w.heap.size w (w.alloc (.cells (cU u pv) 27)) from (Below.refl w.heap.size w).alloc (Nat.le_refl _) _)
  have hu := UrlAt.new w u pv
  obtain ⟨A, hA⟩ : ∃ z, tb u.usr = z := ⟨_, rfl⟩
  obtain ⟨B, hB⟩ : ∃ z, tb u.pas = z := ⟨_, rfl⟩
  have c1 := hu.cell 1
  rw [(cU_at u _ hf.h8).2.1, hA] at c1
  have c2 := hu.cell 2
  rw [(cU_at u _ hf.h8).2.2.1, hB] at c2
  have sA : A.size ≤ 1000000 := by rw [size_tb hA]; exact hf.usr
  have sB : B.size ≤ 1000000 := by rw [size_tb hB]; exact hf.pas
  obtain ⟨eU, heU⟩ : ∃ b, A.toList.isEmpty = b := ⟨_, rfl⟩
  obtain ⟨eS, heS⟩ : ∃ b, B.toList.isEmpty = b := ⟨_, rfl⟩
  have hT : userT u = (if eU && eS then [] else A.data.toList ++ ((if eS then [] else 58 :: B.data.toList) ++ [64])) := by
    unfold userT
    rw [← heU, ← heS, Path.tl, Path.tl, list_tb hA, list_tb hB]
  rw [hT] at hx
  clear hA hB hT hu hf
  cases eS
  · have HF := Lib.hid (show A ++ ⟨#[58]⟩ ++ B ++ ⟨#[64]⟩ = x from by
      rw [← hx, Bool.and_false]
      apply ByteArray.ext
      apply Array.toList_inj.1
      show (A ++ ⟨#[58]⟩ ++ B ++ ⟨#[64]⟩).data.toList = _
      rw [Path.text_append, Path.text_append, Path.text_append, tb_list]; simp)
    clear hx
    cases eU
    all_goals
      go_enter Tryz.func69, Tryz.ntmps69
      go_wp2
      rw [HF.out]
      go_ret
      exact ⟨rfl, HX.out⟩
  · cases eU
    · have HF := Lib.hid (show A ++ ⟨#[64]⟩ = x from by
        rw [← hx]
        apply ByteArray.ext
        apply Array.toList_inj.1
        show (A ++ ⟨#[64]⟩).data.toList = _
        rw [Path.text_append, tb_list]; simp)
      clear hx
      go_enter Tryz.func69, Tryz.ntmps69
      go_wp2
      rw [HF.out]
      go_ret
      exact ⟨rfl, HX.out⟩
    · have HF := Lib.hid (show (⟨#[]⟩ : ByteArray) = x from by rw [← hx]; rfl)
      clear hx
      go_enter Tryz.func69, Tryz.ntmps69
      go_wp2
      go_ret
      exact ⟨by rw [← HF.out]; rfl, HX.out⟩
set_option maxHeartbeats 8000000 in
theorem refDoor_any (u : U) (pv : Value) (hf : Fit u) (hp : ∀ t ∈ u.path, t.length ≤ 30000) (hw : -9223372036854775808 ≤ u.port ∧ u.port ≤ 9223372036854775807) (x : ByteArray) (hx : tb (doorU u) = x) (w : World) (hs : Path.Strs w pv u.path) :
    Calls Tryz.prog 32 #[.agg (cU u pv)] w fun e w' => e = .returned (.string x) ∧ Below w.heap.size w w' := by
  have HX := Lib.hid (show Below w.heap.size w (w.alloc (.cells (cU u pv) 27)) from (Below.refl w.heap.size w).alloc (Nat.le_refl _) _)
  have HU0 := Lib.hid (UrlAt.new w u pv)
  have HS0 := Lib.hid (hs.later HX.out)
  have H8 := Lib.hid hf.h8
  obtain ⟨b, hb⟩ : ∃ b, mayU u = b := ⟨_, rfl⟩
  obtain ⟨z, hz⟩ : ∃ b, webI u.sch = b := ⟨_, rfl⟩
  obtain ⟨N, hN⟩ : ∃ b, tb u.sch = b := ⟨_, rfl⟩
  obtain ⟨G, hG⟩ : ∃ b, tb (showH u.h) = b := ⟨_, rfl⟩
  obtain ⟨P, hP⟩ : ∃ b, tb (Deci.showI u.port) = b := ⟨_, rfl⟩
  have CM := Lib.hid (fun x hx => refMay_any u pv hf hp b hb x hx)
  have CW := Lib.hid (fun x => refWeb_any N z (by rw [list_tb hN]; exact hz) x)
  have CH := Lib.hid (fun x => refHostShow_any u.h hf.h8 hf.hs G hG x)
  have CP := Lib.hid (fun x => show Calls Tryz.prog 73 #[.int .i64 u.port] x fun e w' => e = .returned (.string P) ∧ Below x.heap.size x w' from hP ▸ Deci.refShow_calls u.port hw.1 hw.2 x)
  have sG : G.size ≤ 100 := by rw [size_tb hG]; exact host_len u hf
  have sP : P.size ≤ 20 := by rw [size_tb hP]; exact port_len u hw.2 hw.1
  have HXx := Lib.hid hx
  have HF0 := Lib.hid (show b = false → (⟨#[]⟩ : ByteArray) = x from fun h => by rw [← hx]; unfold doorU; rw [hb, h]; rfl)
  have HF1 := Lib.hid (show z = 0 → (⟨#[]⟩ : ByteArray) = x from fun h => by rw [← hx]; unfold doorU; rw [hz, h]; simp; rfl)
  have HF2 := Lib.hid (show b = true → z ≠ 0 → u.port = -1 → G = x from fun h k l => by
    rw [← hx, ← hG]; unfold doorU doorT portT; rw [hb, h, hz, decide_eq_false k, if_pos l, List.append_nil]; rfl)
  have HF3 := Lib.hid (show b = true → z ≠ 0 → u.port ≠ -1 → G ++ ⟨#[58]⟩ ++ P = x from fun h k l => by
    apply ByteArray.ext
    apply Array.toList_inj.1
    show (G ++ ⟨#[58]⟩ ++ P).data.toList = _
    rw [← hx, tb_list, Path.text_append, Path.text_append, list_tb hG, list_tb hP]; unfold doorU doorT portT; rw [hb, h, hz, decide_eq_false k, if_neg l]; simp)
  have KN := Lib.hid hN
  clear hb hz hN hG hP hx hf hp hs hw
  have hu := HU0.out
  go_enter Tryz.func32, Tryz.ntmps32
  go_wp2_with ((with_reducible refine wp_load27 (o := ⟨some 6, .load 27 (.tmp 1), _, _, _, _⟩) ?_ (.tmp 1) ?_ w.heap.size ?_ u pv H8.out hu ?_); (· rfl); (· rfl); (· rfl); simp only [Act.put, List.setIfInBounds_toArray, List.set_cons_zero, List.set_cons_succ])
  clear hu
  generalize w.alloc (.cells (cU u pv) 27) = X0 at HX HU0 HS0 ⊢
  refine (CM.out _ HS0.out).mono ?_
  rintro e X1 ⟨rfl, hB⟩
  have HB1 := Lib.hid (hB)
  have HU1 := Lib.hid (HU0.out.later hB)
  have HS1 := Lib.hid (HS0.out.later hB)
  clear HU0 HS0
  clear hB CM
  have c0 := HU1.out.cell 0
  rw [(cU_at u _ H8.out).1, KN.out] at c0
  go_wp2_with fail
  refine (CW.out _).mono ?_
  rintro e X ⟨rfl, rfl⟩
  clear c0 CW
  cases b
  · have HE := Lib.hid (HF0.out rfl)
    clear HF0 HF1 HF2 HF3
    go_wp2
    go_ret
    exact ⟨by rw [← HE.out]; rfl, HX.out.trans (HB1.out.mono HX.out.size)⟩
  by_cases z0 : z = 0
  · have q0 : (z == 0) = true := by rw [z0]; rfl
    have HE := Lib.hid (HF1.out z0)
    clear HF0 HF1 HF2 HF3 z0
    go_wp2
    go_ret
    exact ⟨by rw [← HE.out]; rfl, HX.out.trans (HB1.out.mono HX.out.size)⟩
  have q0 : (z == 0) = false := beq_eq_false_iff_ne.2 z0
  have Z0 := Lib.hid z0
  clear z0
  have hh := HU1.out
  go_wp2_with ((with_reducible refine wp_load24u (o := ⟨some 18, .load 24 (.tmp 17), _, _, _, _⟩) ?_ (.tmp 17) ?_ w.heap.size ?_ u pv H8.out hh ?_); (· rfl); (· rfl); (· rfl); simp only [Act.put, List.setIfInBounds_toArray, List.set_cons_zero, List.set_cons_succ])
  refine (CH.out _).mono ?_
  rintro e X2 ⟨rfl, hB⟩
  clear hh q0
  have HB2 := Lib.hid (below_trans HB1.out hB)
  have HU2 := Lib.hid (HU1.out.later hB)
  have HS2 := Lib.hid (HS1.out.later hB)
  clear HB1 HU1 HS1
  clear hB CH
  have c14 := HU2.out.cell 14
  rw [(cU_at u _ H8.out).2.2.2.2.1] at c14
  by_cases l : u.port = -1
  · have q1 : (u.port != -1) = false := by rw [l]; rfl
    have HE := Lib.hid (HF2.out (by first | rfl | trivial) Z0.out l)
    clear HF0 HF1 HF2 HF3 l
    go_wp2
    rw [HE.out]
    go_ret
    exact ⟨rfl, HX.out.trans (HB2.out.mono HX.out.size)⟩
  have q1 : (u.port != -1) = true := bne_iff_ne.2 l
  have HE := Lib.hid (HF3.out (by first | rfl | trivial) Z0.out l)
  clear HF0 HF1 HF2 HF3 l
  go_wp2_with fail
  refine (CP.out _).mono ?_
  rintro e X3 ⟨rfl, hB⟩
  have HB3 := Lib.hid (below_trans HB2.out hB)
  have HU3 := Lib.hid (HU2.out.later hB)
  have HS3 := Lib.hid (HS2.out.later hB)
  clear HB2 HU2 HS2
  clear hB CP c14 q1
  go_wp2
  rw [HE.out]
  go_ret
  exact ⟨rfl, HX.out.trans (HB3.out.mono HX.out.size)⟩
end Go.Proofs.YtkjkcgbmfglihaaGreatDoor.Url
