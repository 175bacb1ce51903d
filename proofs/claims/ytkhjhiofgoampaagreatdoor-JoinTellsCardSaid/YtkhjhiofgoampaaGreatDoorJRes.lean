/-
  Resolve.
-/
import Derived.Test.YtkhjhiofgoampaaGreatDoorJInh
namespace Go.Proofs.YtkhjhiofgoampaaGreatDoor.Join
set_option linter.unusedSimpArgs false
set_option linter.unusedVariables false
set_option maxRecDepth 100000


open Go.RowKit Go.Shelf

open Url Show

open Host (none0)

open Path (Strs)

set_option maxRecDepth 100000

theorem concat_list (N c : ByteArray) : (N ++ ⟨#[58]⟩ ++ c).data.toList = N.data.toList ++ 58 :: c.data.toList := by simp

theorem concat_size (N c : ByteArray) : (N ++ ⟨#[58]⟩ ++ c).size = N.size + 1 + c.size := by
  rw [← size_list, concat_list, List.length_append, List.length_cons, size_list, size_list]; omega

theorem par8u (s : T) : (parU s).h.p.length = 8 := par8 _

set_option maxHeartbeats 16000000 in
theorem resolve_any (b : U) (pv : Value) (hf : Fit b) (hp : b.path.length ≤ 1000) (hsc : b.sch.length ≤ 1000) (s : ByteArray) (hs : s.size ≤ 21000) (r : Bool) (hr : okR b s.data.toList = r) (x : U) (hx : resR b s.data.toList = x) (m : Int) (w : World) (hm : Six.At m w) (hst : Strs w pv b.path) :
    Calls Tryz.prog 11 #[.agg (cU b pv), .string s] w (GotP w x r) := by
  have H8 := Lib.hid hf.h8
  have h1 := UrlAt.new w b pv
  have hb1 := (Below.refl w.heap.size w).alloc (Nat.le_refl _) (.cells (cU b pv) 27)
  have hs1 : (w.alloc (.cells (cU b pv) 27)).heap.size = w.heap.size + 1 := Array.size_push _
  have h2 := UrlAt.new (w.alloc (.cells (cU b pv) 27)) none1 (.slice none 0 0)
  rw [hs1] at h2
  have hB0 : Below w.heap.size w ((w.alloc (.cells (cU b pv) 27)).alloc (.cells #[.string ⟨#[]⟩, .string ⟨#[]⟩, .string ⟨#[]⟩, .int .i64 0, .string ⟨#[]⟩, .int .i64 0, .int .i64 0, .int .i64 0, .int .i64 0, .int .i64 0, .int .i64 0, .int .i64 0, .int .i64 0, .int .i64 0, .int .i64 0, .slice none 0 0, .string ⟨#[]⟩, .string ⟨#[]⟩, .string ⟨#[]⟩, .bool false, .bool false] 27)) := hb1.alloc (by omega) (.cells #[.string ⟨#[]⟩, .string ⟨#[]⟩, .string ⟨#[]⟩, .int .i64 0, .string ⟨#[]⟩, .int .i64 0, .int .i64 0, .int .i64 0, .int .i64 0, .int .i64 0, .int .i64 0, .int .i64 0, .int .i64 0, .int .i64 0, .int .i64 0, .slice none 0 0, .string ⟨#[]⟩, .string ⟨#[]⟩, .string ⟨#[]⟩, .bool false, .bool false] 27)
  have hU : UrlAt ((w.alloc (.cells (cU b pv) 27)).alloc (.cells #[.string ⟨#[]⟩, .string ⟨#[]⟩, .string ⟨#[]⟩, .int .i64 0, .string ⟨#[]⟩, .int .i64 0, .int .i64 0, .int .i64 0, .int .i64 0, .int .i64 0, .int .i64 0, .int .i64 0, .int .i64 0, .int .i64 0, .int .i64 0, .slice none 0 0, .string ⟨#[]⟩, .string ⟨#[]⟩, .string ⟨#[]⟩, .bool false, .bool false] 27)) w.heap.size b pv := h1.past (.cells #[.string ⟨#[]⟩, .string ⟨#[]⟩, .string ⟨#[]⟩, .int .i64 0, .string ⟨#[]⟩, .int .i64 0, .int .i64 0, .int .i64 0, .int .i64 0, .int .i64 0, .int .i64 0, .int .i64 0, .int .i64 0, .int .i64 0, .int .i64 0, .slice none 0 0, .string ⟨#[]⟩, .string ⟨#[]⟩, .string ⟨#[]⟩, .bool false, .bool false] 27)
  have HB0 := Lib.hid hB0
  have HU0 := Lib.hid hU
  have HZ0 := Lib.hid (show UrlAt ((w.alloc (.cells (cU b pv) 27)).alloc (.cells #[.string ⟨#[]⟩, .string ⟨#[]⟩, .string ⟨#[]⟩, .int .i64 0, .string ⟨#[]⟩, .int .i64 0, .int .i64 0, .int .i64 0, .int .i64 0, .int .i64 0, .int .i64 0, .int .i64 0, .int .i64 0, .int .i64 0, .int .i64 0, .slice none 0 0, .string ⟨#[]⟩, .string ⟨#[]⟩, .string ⟨#[]⟩, .bool false, .bool false] 27)) (w.heap.size + 1) none1 (.slice none 0 0) from h2)
  have HM0 := Lib.hid (hm.later hB0)
  have HSZ := Lib.hid (show ((w.alloc (.cells (cU b pv) 27)).alloc (.cells #[.string ⟨#[]⟩, .string ⟨#[]⟩, .string ⟨#[]⟩, .int .i64 0, .string ⟨#[]⟩, .int .i64 0, .int .i64 0, .int .i64 0, .int .i64 0, .int .i64 0, .int .i64 0, .int .i64 0, .int .i64 0, .int .i64 0, .int .i64 0, .slice none 0 0, .string ⟨#[]⟩, .string ⟨#[]⟩, .string ⟨#[]⟩, .bool false, .bool false] 27)).heap.size = w.heap.size + 2 by
    rw [show ((w.alloc (.cells (cU b pv) 27)).alloc (.cells #[.string ⟨#[]⟩, .string ⟨#[]⟩, .string ⟨#[]⟩, .int .i64 0, .string ⟨#[]⟩, .int .i64 0, .int .i64 0, .int .i64 0, .int .i64 0, .int .i64 0, .int .i64 0, .int .i64 0, .int .i64 0, .int .i64 0, .int .i64 0, .slice none 0 0, .string ⟨#[]⟩, .string ⟨#[]⟩, .string ⟨#[]⟩, .bool false, .bool false] 27)).heap.size = (w.alloc (.cells (cU b pv) 27)).heap.size + 1 from Array.size_push _, hs1])
  have HS0 := Lib.hid (hst.later hB0)
  obtain ⟨c, hc⟩ : ∃ c, tb (Ascii.clean s.data.toList) = c := ⟨_, rfl⟩
  have hc1 : c.size ≤ 21000 := by rw [size_tb hc]; exact Nat.le_trans (clean_len _) hs
  have hcl := list_tb hc
  have hcc : Ascii.clean c.data.toList = c.data.toList := by rw [hcl]; exact clean_tight _
  obtain ⟨N, hN⟩ : ∃ n, tb b.sch = n := ⟨_, rfl⟩
  have hN1 : N.size ≤ 1000 := by rw [size_tb hN]; exact hsc
  obtain ⟨D, hD⟩ : ∃ d, N ++ ⟨#[58]⟩ ++ c = d := ⟨_, rfl⟩
  have hD1 : D.size ≤ 25000 := by rw [← hD, concat_size]; omega
  have hDl : D.data.toList = b.sch ++ 58 :: Ascii.clean s.data.toList := by rw [← hD, concat_list, list_tb hN, hcl]
  obtain ⟨mb, hmb⟩ : ∃ y, mayU b = y := ⟨_, rfl⟩
  obtain ⟨wb, hwb⟩ : ∃ y, schB c.data.toList = y := ⟨_, rfl⟩
  obtain ⟨z, hz⟩ : ∃ y, webI b.sch = y := ⟨_, rfl⟩
  obtain ⟨pre, hpre⟩ : ∃ y, Lib.hasPrefix c.data.toList two = y := ⟨_, rfl⟩
  obtain ⟨o1, ho1⟩ : ∃ y, okU c.data.toList = y := ⟨_, rfl⟩
  obtain ⟨o2, ho2⟩ : ∃ y, okU D.data.toList = y := ⟨_, rfl⟩
  have F1 := Lib.hid (show mb = false → r = false ∧ x = none1 from fun h => by
    rw [← hr, ← hx]; unfold okR resR; rw [hmb, h]; exact ⟨rfl, rfl⟩)
  have F2 := Lib.hid (show mb = true → wb = true → r = o1 ∧ x = parU c.data.toList from fun h k => by
    rw [← hr, ← hx, ← ho1]; unfold okR resR okIn resIn okU parU
    rw [hmb, h, if_pos rfl, hcc, hcl, if_pos (by rw [← hcl, hwb, k]), if_pos (by rw [← hcl, hwb, k])]; exact ⟨rfl, rfl⟩)
  have F3 := Lib.hid (show mb = true → wb = false → z = 0 → r = false ∧ x = none1 from fun h k l => by
    rw [← hr, ← hx]; unfold okR resR okIn resIn
    rw [hmb, h, if_pos rfl, if_neg (by rw [← hcl, hwb, k]; simp), if_pos (hz.trans l), if_neg (by rw [← hcl, hwb, k]; simp), if_pos (hz.trans l)]; exact ⟨rfl, rfl⟩)
  have F4 := Lib.hid (show mb = true → wb = false → z ≠ 0 → pre = true → r = o2 ∧ x = parU D.data.toList from fun h k l j => by
    rw [← hr, ← hx, ← ho2, hDl]; unfold okR resR okIn resIn
    rw [hmb, h, if_pos rfl, if_neg (by rw [← hcl, hwb, k]; simp), if_neg (fun e => l (hz.symm.trans e)), if_pos (by rw [← hcl, hpre, j]), if_neg (by rw [← hcl, hwb, k]; simp), if_neg (fun e => l (hz.symm.trans e)), if_pos (by rw [← hcl, hpre, j])]; exact ⟨rfl, rfl⟩)
  have F5 := Lib.hid (show mb = true → wb = false → z ≠ 0 → pre = false → r = true ∧ x = besU b c.data.toList from fun h k l j => by
    rw [← hr, ← hx, hcl]; unfold okR resR okIn resIn
    rw [hmb, h, if_pos rfl, if_neg (by rw [← hcl, hwb, k]; simp), if_neg (fun e => l (hz.symm.trans e)), if_neg (by rw [← hcl, hpre, j]; simp), if_neg (by rw [← hcl, hwb, k]; simp), if_neg (fun e => l (hz.symm.trans e)), if_neg (by rw [← hcl, hpre, j]; simp)]; exact ⟨rfl, rfl⟩)
  have CM := Lib.hid (fun y hy hs => may_any b pv hf mb hmb m y hy hs)
  have CC := Lib.hid (fun y => clean_at s (by omega) c hc y)
  have CW := Lib.hid (fun y hy => whole_any c (by omega) wb (show schB (Ascii.clean c.data.toList) = wb by rw [hcc]; exact hwb) m y hy)
  have CP1 := Lib.hid (fun y hy => parse_in c (by omega) o1 ho1 m y hy)
  have CP2 := Lib.hid (fun y hy => parse_in D hD1 o2 ho2 m y hy)
  have CZ := Lib.hid (fun y => web_any N z (by rw [list_tb hN]; exact hz) y)
  have CH := Lib.hid (fun y => Tryz.strings_HasPrefix c ⟨#[47, 47]⟩ y)
  rw [show (⟨#[47, 47]⟩ : ByteArray).data.toList = two from rfl, hpre] at CH
  have CBs := Lib.hid (fun y hy hs => beside_any b pv hf hp c (by omega) m y hy hs)
  have H81 := Lib.hid (par8u c.data.toList)
  have H82 := Lib.hid (par8u D.data.toList)
  have H83 := Lib.hid (show (besU b c.data.toList).h.p.length = 8 from hf.h8)
  generalize parU c.data.toList = X1 at F2 CP1 H81
  generalize parU D.data.toList = X2 at F4 CP2 H82
  generalize besU b c.data.toList = X3 at F5 CBs H83
  have HN := Lib.hid hN
  have HN1 := Lib.hid hN1
  have HC1 := Lib.hid hc1
  have HD := Lib.hid hD
  have HZw := Lib.hid (show webI b.sch = z from hz)
  obtain ⟨a0, c0, hpv, -⟩ := id hst
  subst hpv
  clear h1 h2 hb1 hs1 hB0 hm hst hf hp hsc hs hr hx hc hc1 hcl hcc hN hN1 hD hD1 hDl hmb hwb hz hpre ho1 ho2
  go_enter Tryz.func11, Tryz.ntmps11
  go_wp2_with ((with_reducible refine wp_load27 (o := ⟨some 7, .load 27 (.tmp 2), _, _, _, _⟩) ?_ (.tmp 2) ?_ w.heap.size ?_ b (.slice a0 b.path.length c0) H8.out hU ?_); (· rfl); (· rfl); (· rfl); simp only [Act.put, List.setIfInBounds_toArray, List.set_cons_zero, List.set_cons_succ])
  clear hU
  generalize (w.alloc (.cells (cU b (.slice a0 b.path.length c0)) 27)).alloc (.cells #[.string ⟨#[]⟩, .string ⟨#[]⟩, .string ⟨#[]⟩, .int .i64 0, .string ⟨#[]⟩, .int .i64 0, .int .i64 0, .int .i64 0, .int .i64 0, .int .i64 0, .int .i64 0, .int .i64 0, .int .i64 0, .int .i64 0, .int .i64 0, .slice none 0 0, .string ⟨#[]⟩, .string ⟨#[]⟩, .string ⟨#[]⟩, .bool false, .bool false] 27) = W at HB0 HU0 HZ0 HM0 HS0 HSZ ⊢
  refine (CM.out _ HM0.out HS0.out).mono ?_
  rintro e u1 ⟨rfl, hB⟩
  have HL1 := Lib.hid (show w.heap.size + 2 ≤ u1.heap.size from by rw [← HSZ.out]; exact hB.size)
  have HB1 := Lib.hid (Ascii.below2 HB0.out hB)
  have HU1 := Lib.hid (HU0.out.later hB)
  have HZ1 := Lib.hid (HZ0.out.later hB)
  have HM1 := Lib.hid (HM0.out.later hB)
  have HS1 := Lib.hid (HS0.out.later hB)
  clear hB HB0 HU0 HZ0 HM0 HS0
  clear CM HSZ
  cases mb
  · obtain ⟨rfl, rfl⟩ := F1.out (by first | rfl | trivial)
    have hz := HZ1.out
    go_wp2_with ((with_reducible refine wp_store27 (o := ⟨none, .store 27 (.tmp 4) (.tmp 10), _, _, _, _⟩) ?_ (.tmp 4) (.tmp 10) ?_ (w.heap.size + 1) ?_ none1 (.slice none 0 0) ?_ rfl rfl none1 (.slice none 0 0) rfl hz ?_); (· rfl); (· rfl); (· rfl); (· exact congrArg Value.agg zero_url); simp only [Act.put, List.setIfInBounds_toArray, List.set_cons_zero, List.set_cons_succ])
    exact bodyPost_ret (ret_two rfl (w.heap.size + 1) none1 (.slice none 0 0) rfl (.bool false) rfl rfl (hz.row none1 (.slice none 0 0))) rfl ⟨_, rfl, Path.Strs.nil _, (fun b o s n c e => by cases e), below_row HB1.out (Nat.le_succ _) _⟩
  go_wp2_with fail
  refine (CC.out _).mono ?_
  rintro e u2 ⟨rfl, hB⟩
  have HG2 := Lib.hid (show u1.heap.size ≤ u2.heap.size from hB.size)
  have HB2 := Lib.hid (Ascii.below2 HB1.out hB)
  have HU2 := Lib.hid (HU1.out.later hB)
  have HZ2 := Lib.hid (HZ1.out.later hB)
  have HM2 := Lib.hid (HM1.out.later hB)
  have HS2 := Lib.hid (HS1.out.later hB)
  clear hB HB1 HU1 HZ1 HM1 HS1
  go_wp2_with fail
  refine (CW.out _ HM2.out).mono ?_
  rintro e u3 ⟨rfl, hB⟩
  have HG3 := Lib.hid (show u1.heap.size ≤ u3.heap.size from Nat.le_trans HG2.out hB.size)
  have HB3 := Lib.hid (Ascii.below2 HB2.out hB)
  have HU3 := Lib.hid (HU2.out.later hB)
  have HZ3 := Lib.hid (HZ2.out.later hB)
  have HM3 := Lib.hid (HM2.out.later hB)
  have HS3 := Lib.hid (HS2.out.later hB)
  clear hB HB2 HU2 HZ2 HM2 HS2
  clear CC CW HG2
  have HG := HG3
  cases wb
  · clear F2 F1 CP1 H81
    have c0 := HU3.out.cell 0
    rw [(cU_at b _ H8.out).1, HN.out] at c0
    go_wp2_with fail
    refine (CZ.out _).mono ?_
    rintro e u4 ⟨rfl, rfl⟩
    by_cases h0 : z = 0
    · subst h0
      obtain ⟨rfl, rfl⟩ := F3.out (by first | rfl | trivial) (by first | rfl | trivial) (by first | rfl | trivial)
      have hz := HZ3.out
      go_wp2_with ((with_reducible refine wp_store27 (o := ⟨none, .store 27 (.tmp 4) (.tmp 25), _, _, _, _⟩) ?_ (.tmp 4) (.tmp 25) ?_ (w.heap.size + 1) ?_ none1 (.slice none 0 0) ?_ rfl rfl none1 (.slice none 0 0) rfl hz ?_); (· rfl); (· rfl); (· rfl); (· exact congrArg Value.agg zero_url); simp only [Act.put, List.setIfInBounds_toArray, List.set_cons_zero, List.set_cons_succ])
      exact bodyPost_ret (ret_two rfl (w.heap.size + 1) none1 (.slice none 0 0) rfl (.bool false) rfl rfl (hz.row none1 (.slice none 0 0))) rfl ⟨_, rfl, Path.Strs.nil _, (fun b o s n c e => by cases e), below_row HB3.out (Nat.le_succ _) _⟩
    have q0 : (z == 0) = false := beq_eq_false_iff_ne.2 h0
    go_wp2_with fail
    refine (CH.out _).mono ?_
    rintro e u4 ⟨rfl, rfl⟩
    have hd := HD.out
    cases pre
    · have hu := HU3.out
      clear c0
      go_wp2_with ((with_reducible refine wp_load27 (o := ⟨some 37, .load 27 (.tmp 2), _, _, _, _⟩) ?_ (.tmp 2) ?_ w.heap.size ?_ b (.slice a0 b.path.length c0) H8.out hu ?_); (· rfl); (· rfl); (· rfl); simp only [Act.put, List.setIfInBounds_toArray, List.set_cons_zero, List.set_cons_succ])
      refine (CBs.out _ HM3.out HS3.out).mono ?_
      rintro e u9 ⟨qv, rfl, hst, hn, hB⟩
      have hone := strs_one hst
      have hn2 : Path.New (w.heap.size + 2) qv := hn.mono (Nat.le_trans HL1.out HG.out)
      obtain ⟨rfl, rfl⟩ := F5.out (by first | rfl | trivial) (by first | rfl | trivial) h0 (by first | rfl | trivial)
      have hz := HZ3.out.later hB
      have hB2 := Ascii.below2 HB3.out hB
      have hx8 := H83.out
      go_wp2_with ((with_reducible refine wp_store27 (o := ⟨none, .store 27 (.tmp 4) (.tmp 39), _, _, _, _⟩) ?_ (.tmp 4) (.tmp 39) ?_ (w.heap.size + 1) ?_ x qv ?_ hx8 hone none1 (.slice none 0 0) rfl hz ?_); (· rfl); (· rfl); (· rfl); (· rfl); simp only [Act.put, List.setIfInBounds_toArray, List.set_cons_zero, List.set_cons_succ])
      exact bodyPost_ret (ret_two rfl (w.heap.size + 1) x qv hx8 (.bool true) rfl rfl (hz.row x qv)) rfl ⟨qv, rfl, strs_other (w.heap.size + 1) hst hn2 (fun k hk => Url.setRow_other _ _ _ (Ne.symm hk)), hn2.mono (by omega), below_row hB2 (Nat.le_succ _) _⟩
    · have hn1 := HN1.out
      have hc1 := HC1.out
      go_wp2_with fail
      clear hn1 hc1
      
      refine (CP2.out _ HM3.out).mono ?_
      rintro e u9 ⟨qv, rfl, hst, hn, hB⟩
      have hone := strs_one hst
      have hn2 : Path.New (w.heap.size + 2) qv := hn.mono (Nat.le_trans HL1.out HG.out)
      obtain ⟨rfl, rfl⟩ := F4.out (by first | rfl | trivial) (by first | rfl | trivial) h0 (by first | rfl | trivial)
      have hz := HZ3.out.later hB
      have hB2 := Ascii.below2 HB3.out hB
      have hx8 := H82.out
      go_wp2_with ((with_reducible refine wp_store27 (o := ⟨none, .store 27 (.tmp 4) (.tmp 35), _, _, _, _⟩) ?_ (.tmp 4) (.tmp 35) ?_ (w.heap.size + 1) ?_ x qv ?_ hx8 hone none1 (.slice none 0 0) rfl hz ?_); (· rfl); (· rfl); (· rfl); (· rfl); simp only [Act.put, List.setIfInBounds_toArray, List.set_cons_zero, List.set_cons_succ])
      exact bodyPost_ret (ret_two rfl (w.heap.size + 1) x qv hx8 (.bool r) rfl rfl (hz.row x qv)) rfl ⟨qv, rfl, strs_other (w.heap.size + 1) hst hn2 (fun k hk => Url.setRow_other _ _ _ (Ne.symm hk)), hn2.mono (by omega), below_row hB2 (Nat.le_succ _) _⟩
  · go_wp2_with fail
    refine (CP1.out _ HM3.out).mono ?_
    rintro e u9 ⟨qv, rfl, hst, hn, hB⟩
    have hone := strs_one hst
    have hn2 : Path.New (w.heap.size + 2) qv := hn.mono (Nat.le_trans HL1.out HG.out)
    obtain ⟨rfl, rfl⟩ := F2.out (by first | rfl | trivial) (by first | rfl | trivial)
    have hz := HZ3.out.later hB
    have hB2 := Ascii.below2 HB3.out hB
    have hx8 := H81.out
    go_wp2_with ((with_reducible refine wp_store27 (o := ⟨none, .store 27 (.tmp 4) (.tmp 18), _, _, _, _⟩) ?_ (.tmp 4) (.tmp 18) ?_ (w.heap.size + 1) ?_ x qv ?_ hx8 hone none1 (.slice none 0 0) rfl hz ?_); (· rfl); (· rfl); (· rfl); (· rfl); simp only [Act.put, List.setIfInBounds_toArray, List.set_cons_zero, List.set_cons_succ])
    exact bodyPost_ret (ret_two rfl (w.heap.size + 1) x qv hx8 (.bool r) rfl rfl (hz.row x qv)) rfl ⟨qv, rfl, strs_other (w.heap.size + 1) hst hn2 (fun k hk => Url.setRow_other _ _ _ (Ne.symm hk)), hn2.mono (by omega), below_row hB2 (Nat.le_succ _) _⟩

end Go.Proofs.YtkhjhiofgoampaaGreatDoor.Join
