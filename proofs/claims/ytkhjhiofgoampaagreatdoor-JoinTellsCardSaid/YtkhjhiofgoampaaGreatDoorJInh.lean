/-
  Whole, Inherit, Resolve.
-/
import Derived.Test.YtkhjhiofgoampaaGreatDoorJBes
namespace Go.Proofs.YtkhjhiofgoampaaGreatDoor.Join
set_option linter.unusedSimpArgs false
set_option linter.unusedVariables false
set_option maxRecDepth 100000


open Go.RowKit Go.Shelf

open Url Show

open Host (none0)

open Path (Strs)

set_option maxRecDepth 100000

theorem url_set {w : World} {g k j : Nat} {u : U} {pv : Value} (a : UrlAt w g u pv) (h : k ≠ g) (v : Value) : UrlAt (w.setCell ⟨k, j, none⟩ v) g u pv := (set_other w k j v h).trans a

set_option maxHeartbeats 8000000 in
theorem whole_any (s : ByteArray) (hs : s.size ≤ 30000) (b : Bool) (hb : wholeB s.data.toList = b) (m : Int) (w : World) (hm : Six.At m w) :
    Calls Tryz.prog 17 #[.string s] w fun e w' => e = .returned (.bool b) ∧ Below w.heap.size w w' := by
  obtain ⟨c, hc⟩ : ∃ c, tb (Ascii.clean s.data.toList) = c := ⟨_, rfl⟩
  have hc1 : c.size ≤ 30000 := by rw [size_tb hc]; exact Nat.le_trans (clean_len _) hs
  have CC := Lib.hid (fun u => clean_at s (by omega) c hc u)
  obtain ⟨x, hx⟩ : ∃ x, tb (schS c.data.toList) = x := ⟨_, rfl⟩
  obtain ⟨y, hy⟩ : ∃ x, tb (schR c.data.toList) = x := ⟨_, rfl⟩
  have hb' : schB c.data.toList = b := by rw [list_tb hc]; exact hb
  have CS := Lib.hid (fun u hu => scheme_any c (by omega) x y b hx hy hb' m u hu)
  clear hc hc1 hx hy hb' hb hs
  go_enter Tryz.func17, Tryz.ntmps17
  go_wp2_with fail
  refine (CC.out _).mono ?_
  rintro e u1 ⟨rfl, hB1⟩
  go_wp2_with fail
  refine (CS.out _ (hm.later hB1)).mono ?_
  rintro e u2 ⟨rfl, hB2⟩
  go_wp2
  go_ret
  exact ⟨rfl, Ascii.below2 hB1 hB2⟩

set_option maxHeartbeats 16000000 in
theorem inherit_any (u v : U) (pv qv : Value) (hf : Fit u) (hg : Fit v) (w : World) (hs : Strs w pv u.path) (ht : Strs w qv v.path) : Calls Tryz.prog 14 #[.agg (cU u pv), .agg (cU v qv)] w (Got w (inhU u v)) := by
  have H8 := Lib.hid hf.h8
  have H8v := Lib.hid hg.h8
  have HFu := Lib.hid hf.frg
  have HFv := Lib.hid hg.frg
  have h1 := UrlAt.new w u pv
  have hb1 := (Below.refl w.heap.size w).alloc (Nat.le_refl _) (.cells (cU u pv) 27)
  have hs1 : (w.alloc (.cells (cU u pv) 27)).heap.size = w.heap.size + 1 := Array.size_push _
  have h2 := UrlAt.new (w.alloc (.cells (cU u pv) 27)) v qv
  have hb2 := hb1.alloc (by omega) (.cells (cU v qv) 27)
  have hs2 : ((w.alloc (.cells (cU u pv) 27)).alloc (.cells (cU v qv) 27)).heap.size = w.heap.size + 2 := by rw [show ((w.alloc (.cells (cU u pv) 27)).alloc (.cells (cU v qv) 27)).heap.size = (w.alloc (.cells (cU u pv) 27)).heap.size + 1 from Array.size_push _, hs1]
  have h3 := UrlAt.new ((w.alloc (.cells (cU u pv) 27)).alloc (.cells (cU v qv) 27)) none1 (.slice none 0 0)
  rw [hs1] at h2
  rw [hs2] at h3
  have hB0 : Below w.heap.size w (((w.alloc (.cells (cU u pv) 27)).alloc (.cells (cU v qv) 27)).alloc (.cells #[.string ⟨#[]⟩, .string ⟨#[]⟩, .string ⟨#[]⟩, .int .i64 0, .string ⟨#[]⟩, .int .i64 0, .int .i64 0, .int .i64 0, .int .i64 0, .int .i64 0, .int .i64 0, .int .i64 0, .int .i64 0, .int .i64 0, .int .i64 0, .slice none 0 0, .string ⟨#[]⟩, .string ⟨#[]⟩, .string ⟨#[]⟩, .bool false, .bool false] 27)) := hb2.alloc (by omega) (.cells #[.string ⟨#[]⟩, .string ⟨#[]⟩, .string ⟨#[]⟩, .int .i64 0, .string ⟨#[]⟩, .int .i64 0, .int .i64 0, .int .i64 0, .int .i64 0, .int .i64 0, .int .i64 0, .int .i64 0, .int .i64 0, .int .i64 0, .int .i64 0, .slice none 0 0, .string ⟨#[]⟩, .string ⟨#[]⟩, .string ⟨#[]⟩, .bool false, .bool false] 27)
  have hU : UrlAt (((w.alloc (.cells (cU u pv) 27)).alloc (.cells (cU v qv) 27)).alloc (.cells #[.string ⟨#[]⟩, .string ⟨#[]⟩, .string ⟨#[]⟩, .int .i64 0, .string ⟨#[]⟩, .int .i64 0, .int .i64 0, .int .i64 0, .int .i64 0, .int .i64 0, .int .i64 0, .int .i64 0, .int .i64 0, .int .i64 0, .int .i64 0, .slice none 0 0, .string ⟨#[]⟩, .string ⟨#[]⟩, .string ⟨#[]⟩, .bool false, .bool false] 27)) w.heap.size u pv := (h1.past (.cells (cU v qv) 27)).past (.cells #[.string ⟨#[]⟩, .string ⟨#[]⟩, .string ⟨#[]⟩, .int .i64 0, .string ⟨#[]⟩, .int .i64 0, .int .i64 0, .int .i64 0, .int .i64 0, .int .i64 0, .int .i64 0, .int .i64 0, .int .i64 0, .int .i64 0, .int .i64 0, .slice none 0 0, .string ⟨#[]⟩, .string ⟨#[]⟩, .string ⟨#[]⟩, .bool false, .bool false] 27)
  have HU := Lib.hid hU
  have hV : UrlAt (((w.alloc (.cells (cU u pv) 27)).alloc (.cells (cU v qv) 27)).alloc (.cells #[.string ⟨#[]⟩, .string ⟨#[]⟩, .string ⟨#[]⟩, .int .i64 0, .string ⟨#[]⟩, .int .i64 0, .int .i64 0, .int .i64 0, .int .i64 0, .int .i64 0, .int .i64 0, .int .i64 0, .int .i64 0, .int .i64 0, .int .i64 0, .slice none 0 0, .string ⟨#[]⟩, .string ⟨#[]⟩, .string ⟨#[]⟩, .bool false, .bool false] 27)) (w.heap.size + 1) v qv := h2.past (.cells #[.string ⟨#[]⟩, .string ⟨#[]⟩, .string ⟨#[]⟩, .int .i64 0, .string ⟨#[]⟩, .int .i64 0, .int .i64 0, .int .i64 0, .int .i64 0, .int .i64 0, .int .i64 0, .int .i64 0, .int .i64 0, .int .i64 0, .int .i64 0, .slice none 0 0, .string ⟨#[]⟩, .string ⟨#[]⟩, .string ⟨#[]⟩, .bool false, .bool false] 27)
  have HV := Lib.hid hV
  have HZ := Lib.hid (show UrlAt (((w.alloc (.cells (cU u pv) 27)).alloc (.cells (cU v qv) 27)).alloc (.cells #[.string ⟨#[]⟩, .string ⟨#[]⟩, .string ⟨#[]⟩, .int .i64 0, .string ⟨#[]⟩, .int .i64 0, .int .i64 0, .int .i64 0, .int .i64 0, .int .i64 0, .int .i64 0, .int .i64 0, .int .i64 0, .int .i64 0, .int .i64 0, .slice none 0 0, .string ⟨#[]⟩, .string ⟨#[]⟩, .string ⟨#[]⟩, .bool false, .bool false] 27)) (w.heap.size + 2) none1 (.slice none 0 0) from h3)
  have HB0 := Lib.hid hB0
  have HSZ := Lib.hid (show (((w.alloc (.cells (cU u pv) 27)).alloc (.cells (cU v qv) 27)).alloc (.cells #[.string ⟨#[]⟩, .string ⟨#[]⟩, .string ⟨#[]⟩, .int .i64 0, .string ⟨#[]⟩, .int .i64 0, .int .i64 0, .int .i64 0, .int .i64 0, .int .i64 0, .int .i64 0, .int .i64 0, .int .i64 0, .int .i64 0, .int .i64 0, .slice none 0 0, .string ⟨#[]⟩, .string ⟨#[]⟩, .string ⟨#[]⟩, .bool false, .bool false] 27)).heap.size = w.heap.size + 3 by rw [show (((w.alloc (.cells (cU u pv) 27)).alloc (.cells (cU v qv) 27)).alloc (.cells #[.string ⟨#[]⟩, .string ⟨#[]⟩, .string ⟨#[]⟩, .int .i64 0, .string ⟨#[]⟩, .int .i64 0, .int .i64 0, .int .i64 0, .int .i64 0, .int .i64 0, .int .i64 0, .int .i64 0, .int .i64 0, .int .i64 0, .int .i64 0, .slice none 0 0, .string ⟨#[]⟩, .string ⟨#[]⟩, .string ⟨#[]⟩, .bool false, .bool false] 27)).heap.size = ((w.alloc (.cells (cU u pv) 27)).alloc (.cells (cU v qv) 27)).heap.size + 1 from Array.size_push _, hs2])
  have HS := Lib.hid (hs.later hB0)
  have HSw := Lib.hid hs
  have CB := Lib.hid (fun x hx => Show.bare_any u pv hf x hx)
  have hone := strs_one hs
  have c20 := hU.cell 20
  rw [(cU_at u pv H8.out).2.2.2.2.2.2.2.2.2.2] at c20
  obtain ⟨h, hh⟩ : ∃ h, u.hf = h := ⟨_, rfl⟩
  have HI1 := Lib.hid (fun k : h = true => inh_yes (hh.trans k) v)
  have HI2 := Lib.hid (fun k : h = false => inh_no (hh.trans k) v)
  rw [hh] at c20
  have HH := Lib.hid hh
  clear h1 h2 h3 hb1 hb2 hs1 hs2 hB0 hs ht hf hg hh
  cases h
  · go_enter Tryz.func14, Tryz.ntmps14
    go_wp2_with ((with_reducible refine wp_load27 (o := ⟨some 9, .load 27 (.tmp 2), _, _, _, _⟩) ?_ (.tmp 2) ?_ w.heap.size ?_ u pv H8.out hU ?_); (· rfl); (· rfl); (· rfl); simp only [Act.put, List.setIfInBounds_toArray, List.set_cons_zero, List.set_cons_succ])
    clear hU hV c20
    generalize ((w.alloc (.cells (cU u pv) 27)).alloc (.cells (cU v qv) 27)).alloc (.cells #[.string ⟨#[]⟩, .string ⟨#[]⟩, .string ⟨#[]⟩, .int .i64 0, .string ⟨#[]⟩, .int .i64 0, .int .i64 0, .int .i64 0, .int .i64 0, .int .i64 0, .int .i64 0, .int .i64 0, .int .i64 0, .int .i64 0, .int .i64 0, .slice none 0 0, .string ⟨#[]⟩, .string ⟨#[]⟩, .string ⟨#[]⟩, .bool false, .bool false] 27) = W at HU HV HZ HB0 HS HSZ ⊢
    have HU1 := HU
    have HV1 := HV
    have HZ1 := HZ
    have HB1 := HB0
    have HS1 := HS
    have HSZ1 := HSZ
    clear HU HV HZ HB0 HS HSZ
    refine (CB.out _ HS1.out).mono ?_
    rintro e u2 ⟨rv, rfl, hst, hn, hB⟩
    have hone2 := strs_one hst
    rw [HSZ1.out] at hn
    have H8b : (bareU u).h.p.length = 8 := H8.out
    have hnew := new_url u2
    have hC := below_url u2 (bareU u) rv
    have HV3 := Lib.hid ((HV1.out.later hB).later hC)
    have HZ3 := Lib.hid ((HZ1.out.later hB).later hC)
    have HB3 := Lib.hid (Ascii.below2 (Ascii.below2 HB1.out hB) hC)
    have HST := Lib.hid (hst.later hC)
    have HG := Lib.hid (hnew.row (bareU u) rv)
    have HA := Lib.hid (show ∀ (X Y : World), Strs Y rv (bareU u).path → (∀ j, j ≠ u2.heap.size → X.heap[j]? = Y.heap[j]?) → Strs X rv (bareU u).path from fun X Y h hV => strs_aside u2.heap.size h hst (Nat.le_refl _) hV)
    have HN := Lib.hid hn
    have HL := Lib.hid (show w.heap.size + 3 ≤ u2.heap.size from by rw [← HSZ1.out]; exact hB.size)
    clear CB HU1 HV1 HZ1 HB1 HS1 HSZ1 hst hn hB hC
    go_upto_region 4 with ((with_reducible refine wp_store27 (o := ⟨none, .store 27 (.tmp 5) (.tmp 10), _, _, _, _⟩) ?_ (.tmp 5) (.tmp 10) ?_ u2.heap.size ?_ (bareU u) rv ?_ H8b hone2 none1 (.slice none 0 0) rfl hnew ?_); (· rfl); (· rfl); (· rfl); (· rfl); simp only [Act.put, List.setIfInBounds_toArray, List.set_cons_zero, List.set_cons_succ])
    generalize (u2.alloc (.cells #[.string ⟨#[]⟩, .string ⟨#[]⟩, .string ⟨#[]⟩, .int .i64 0, .string ⟨#[]⟩, .int .i64 0, .int .i64 0, .int .i64 0, .int .i64 0, .int .i64 0, .int .i64 0, .int .i64 0, .int .i64 0, .int .i64 0, .int .i64 0, .slice none 0 0, .string ⟨#[]⟩, .string ⟨#[]⟩, .string ⟨#[]⟩, .bool false, .bool false] 27)).setRow u2.heap.size (cU (bareU u) rv) = V at HV3 HZ3 HB3 HST HG ⊢
    clear hnew hone2
    generalize u2.heap.size = g at HG HL HA ⊢
    have hV3 := HV3.out
    have hG := HG.out
    have c18 := hV3.cell 18
    rw [(cU_at v qv H8v.out).2.2.2.2.2.2.2.2.1] at c18
    have c20 := hV3.cell 20
    rw [(cU_at v qv H8v.out).2.2.2.2.2.2.2.2.2.2] at c20
    have hfr : (tb v.frg).size ≤ 281474976710656 := by rw [tb_size]; have := HFv.out; omega
    have HC := Lib.hid (Path.clone_any (tb v.frg) hfr)
    clear hfr
    go_region_law (go_simp; go_at_call 38; refine (HC.out _).mono ?_; rintro e w1 ⟨rfl, hB1⟩; have hX1 : UrlAt w1 (w.heap.size + 1) v qv := UrlAt.later (w := V.drew) HV3.out hB1; have hG1 : UrlAt w1 g (bareU u) rv := UrlAt.later (w := V.drew) HG.out hB1; have d20 := hX1.cell 20; rw [(cU_at v qv H8v.out).2.2.2.2.2.2.2.2.2.2] at d20; have g18 := hG1.cell 18; rw [(cU_at (bareU u) rv H8b).2.2.2.2.2.2.2.2.1] at g18; have g20 := hG1.cell 20; rw [(cU_at (bareU u) rv H8b).2.2.2.2.2.2.2.2.2.2] at g20; have f18 := hG1.free 18; have f20 := hG1.free 20)
    all_goals
      have hBV : Below V.heap.size V w1 := below_trans (Below.refl V.heap.size V).drew hB1
      have hz := url_set (url_set (HZ3.out.later hBV) (by have := HL.out; omega : g ≠ w.heap.size + 2) (j := 18) (.string (tb v.frg))) (by have := HL.out; omega : g ≠ w.heap.size + 2) (j := 20) (.bool v.hf)
      have hst := HA.out ((w1.setCell ⟨g, 18, none⟩ (.string (tb v.frg))).setCell ⟨g, 20, none⟩ (.bool v.hf)) w1 (HST.out.later hBV) (fun j hj => (set_other _ _ _ _ (Ne.symm hj)).trans (set_other _ _ _ _ (Ne.symm hj)))
      have hbb := below_set (below_set (Ascii.below2 HB3.out hBV) (by have := HL.out; omega : w.heap.size ≤ g) 18 (.string (tb v.frg))) (by have := HL.out; omega : w.heap.size ≤ g) 20 (.bool v.hf)
      have hX : inhU u v = { bareU u with frg := v.frg, hf := v.hf } := HI2.out (by first | rfl | trivial)
      have hX8 : (inhU u v).h.p.length = 8 := by rw [hX]; exact H8b
      have hu : UrlAt ((w1.setCell ⟨g, 18, none⟩ (.string (tb v.frg))).setCell ⟨g, 20, none⟩ (.bool v.hf)) g (inhU u v) rv := by
        rw [hX]
        exact (hG1.frg H8b v.frg).hf (by exact H8b) v.hf
      have hone2 := strs_one hst
      have hpt : (inhU u v).path = (bareU u).path := by rw [hX]
      have HPT := Lib.hid hpt
      have HNN := HN.out
      clear d20 g18 g20 f18 f20 hX1 hG1 hBV hX hpt hV3 hG c18 c20
      generalize (w1.setCell ⟨g, 18, none⟩ (.string (tb v.frg))).setCell ⟨g, 20, none⟩ (.bool v.hf) = Y at hz hst hbb hu ⊢
      go_wp2_with (first
        | ((with_reducible refine wp_load27 (o := ⟨some 18, .load 27 (.tmp 5), _, _, _, _⟩) ?_ (.tmp 5) ?_ g ?_ (inhU u v) rv hX8 hu ?_); (· rfl); (· rfl); (· rfl); simp only [Act.put, List.setIfInBounds_toArray, List.set_cons_zero, List.set_cons_succ])
        | ((with_reducible refine wp_store27 (o := ⟨none, .store 27 (.tmp 4) (.tmp 18), _, _, _, _⟩) ?_ (.tmp 4) (.tmp 18) ?_ (w.heap.size + 2) ?_ (inhU u v) rv ?_ hX8 hone2 none1 (.slice none 0 0) rfl hz ?_); (· rfl); (· rfl); (· rfl); (· rfl); simp only [Act.put, List.setIfInBounds_toArray, List.set_cons_zero, List.set_cons_succ]))
      exact bodyPost_ret (ret_url rfl (w.heap.size + 2) (inhU u v) rv hX8 rfl (hz.row (inhU u v) rv)) rfl ⟨rv, rfl, by rw [HPT.out]; exact strs_other (w.heap.size + 2) hst HNN (fun k hk => Url.setRow_other _ _ _ (Ne.symm hk)), HNN.mono (by omega), below_row hbb (by omega) _⟩
  · go_enter Tryz.func14, Tryz.ntmps14
    have hU2 : UrlAt ((((w.alloc (.cells (cU u pv) 27)).alloc (.cells (cU v qv) 27)).alloc (.cells #[.string ⟨#[]⟩, .string ⟨#[]⟩, .string ⟨#[]⟩, .int .i64 0, .string ⟨#[]⟩, .int .i64 0, .int .i64 0, .int .i64 0, .int .i64 0, .int .i64 0, .int .i64 0, .int .i64 0, .int .i64 0, .int .i64 0, .int .i64 0, .slice none 0 0, .string ⟨#[]⟩, .string ⟨#[]⟩, .string ⟨#[]⟩, .bool false, .bool false] 27)).setRow (w.heap.size + 1) (cU u pv)) w.heap.size u pv := (Url.setRow_other _ _ _ (by omega)).trans hU
    go_wp2_with (first
      | ((with_reducible refine wp_load27 (o := ⟨some 8, .load 27 (.tmp 2), _, _, _, _⟩) ?_ (.tmp 2) ?_ w.heap.size ?_ u pv H8.out hU ?_); (· rfl); (· rfl); (· rfl); simp only [Act.put, List.setIfInBounds_toArray, List.set_cons_zero, List.set_cons_succ])
      | ((with_reducible refine wp_store27 (o := ⟨none, .store 27 (.tmp 3) (.tmp 8), _, _, _, _⟩) ?_ (.tmp 3) (.tmp 8) ?_ (w.heap.size + 1) ?_ u pv ?_ H8.out hone v qv H8v.out hV ?_); (· rfl); (· rfl); (· rfl); (· rfl); simp only [Act.put, List.setIfInBounds_toArray, List.set_cons_zero, List.set_cons_succ])
      | ((with_reducible refine wp_load27 (o := ⟨some 9, .load 27 (.tmp 2), _, _, _, _⟩) ?_ (.tmp 2) ?_ w.heap.size ?_ u pv H8.out hU2 ?_); (· rfl); (· rfl); (· rfl); simp only [Act.put, List.setIfInBounds_toArray, List.set_cons_zero, List.set_cons_succ]))
    clear hU hV hU2 c20
    have HV1 := Lib.hid (HV.out.row u pv)
    have HU1 := Lib.hid ((Url.setRow_other _ (w.heap.size + 1) (cU u pv) (by omega : w.heap.size + 1 ≠ w.heap.size)).trans HU.out)
    have HZ1 := Lib.hid (show UrlAt ((((w.alloc (.cells (cU u pv) 27)).alloc (.cells (cU v qv) 27)).alloc (.cells #[.string ⟨#[]⟩, .string ⟨#[]⟩, .string ⟨#[]⟩, .int .i64 0, .string ⟨#[]⟩, .int .i64 0, .int .i64 0, .int .i64 0, .int .i64 0, .int .i64 0, .int .i64 0, .int .i64 0, .int .i64 0, .int .i64 0, .int .i64 0, .slice none 0 0, .string ⟨#[]⟩, .string ⟨#[]⟩, .string ⟨#[]⟩, .bool false, .bool false] 27)).setRow (w.heap.size + 1) (cU u pv)) (w.heap.size + 2) none1 (.slice none 0 0) from (Url.setRow_other _ (w.heap.size + 1) (cU u pv) (by omega : w.heap.size + 1 ≠ w.heap.size + 2)).trans HZ.out)
    have HB1 := Lib.hid (below_row HB0.out (Nat.le_succ w.heap.size) (cU u pv))
    have HS1 := Lib.hid (show Strs ((((w.alloc (.cells (cU u pv) 27)).alloc (.cells (cU v qv) 27)).alloc (.cells #[.string ⟨#[]⟩, .string ⟨#[]⟩, .string ⟨#[]⟩, .int .i64 0, .string ⟨#[]⟩, .int .i64 0, .int .i64 0, .int .i64 0, .int .i64 0, .int .i64 0, .int .i64 0, .int .i64 0, .int .i64 0, .int .i64 0, .int .i64 0, .slice none 0 0, .string ⟨#[]⟩, .string ⟨#[]⟩, .string ⟨#[]⟩, .bool false, .bool false] 27)).setRow (w.heap.size + 1) (cU u pv)) pv u.path from HSw.out.later HB1.out)
    have HSZ1 := Lib.hid (show ((((w.alloc (.cells (cU u pv) 27)).alloc (.cells (cU v qv) 27)).alloc (.cells #[.string ⟨#[]⟩, .string ⟨#[]⟩, .string ⟨#[]⟩, .int .i64 0, .string ⟨#[]⟩, .int .i64 0, .int .i64 0, .int .i64 0, .int .i64 0, .int .i64 0, .int .i64 0, .int .i64 0, .int .i64 0, .int .i64 0, .int .i64 0, .slice none 0 0, .string ⟨#[]⟩, .string ⟨#[]⟩, .string ⟨#[]⟩, .bool false, .bool false] 27)).setRow (w.heap.size + 1) (cU u pv)).heap.size = w.heap.size + 3 from (setRow_size _ _ _).trans HSZ.out)
    clear HU HV HZ HB0 HS HSZ
    generalize ((((w.alloc (.cells (cU u pv) 27)).alloc (.cells (cU v qv) 27)).alloc (.cells #[.string ⟨#[]⟩, .string ⟨#[]⟩, .string ⟨#[]⟩, .int .i64 0, .string ⟨#[]⟩, .int .i64 0, .int .i64 0, .int .i64 0, .int .i64 0, .int .i64 0, .int .i64 0, .int .i64 0, .int .i64 0, .int .i64 0, .int .i64 0, .slice none 0 0, .string ⟨#[]⟩, .string ⟨#[]⟩, .string ⟨#[]⟩, .bool false, .bool false] 27)).setRow (w.heap.size + 1) (cU u pv)) = W at HU1 HV1 HZ1 HB1 HS1 HSZ1 ⊢
    refine (CB.out _ HS1.out).mono ?_
    rintro e u2 ⟨rv, rfl, hst, hn, hB⟩
    have hone2 := strs_one hst
    rw [HSZ1.out] at hn
    have H8b : (bareU u).h.p.length = 8 := H8.out
    have hnew := new_url u2
    have hC := below_url u2 (bareU u) rv
    have HV3 := Lib.hid ((HV1.out.later hB).later hC)
    have HZ3 := Lib.hid ((HZ1.out.later hB).later hC)
    have HB3 := Lib.hid (Ascii.below2 (Ascii.below2 HB1.out hB) hC)
    have HST := Lib.hid (hst.later hC)
    have HG := Lib.hid (hnew.row (bareU u) rv)
    have HA := Lib.hid (show ∀ (X Y : World), Strs Y rv (bareU u).path → (∀ j, j ≠ u2.heap.size → X.heap[j]? = Y.heap[j]?) → Strs X rv (bareU u).path from fun X Y h hV => strs_aside u2.heap.size h hst (Nat.le_refl _) hV)
    have HN := Lib.hid hn
    have HL := Lib.hid (show w.heap.size + 3 ≤ u2.heap.size from by rw [← HSZ1.out]; exact hB.size)
    clear CB HU1 HV1 HZ1 HB1 HS1 HSZ1 hst hn hB hC
    go_upto_region 4 with ((with_reducible refine wp_store27 (o := ⟨none, .store 27 (.tmp 5) (.tmp 10), _, _, _, _⟩) ?_ (.tmp 5) (.tmp 10) ?_ u2.heap.size ?_ (bareU u) rv ?_ H8b hone2 none1 (.slice none 0 0) rfl hnew ?_); (· rfl); (· rfl); (· rfl); (· rfl); simp only [Act.put, List.setIfInBounds_toArray, List.set_cons_zero, List.set_cons_succ])
    generalize (u2.alloc (.cells #[.string ⟨#[]⟩, .string ⟨#[]⟩, .string ⟨#[]⟩, .int .i64 0, .string ⟨#[]⟩, .int .i64 0, .int .i64 0, .int .i64 0, .int .i64 0, .int .i64 0, .int .i64 0, .int .i64 0, .int .i64 0, .int .i64 0, .int .i64 0, .slice none 0 0, .string ⟨#[]⟩, .string ⟨#[]⟩, .string ⟨#[]⟩, .bool false, .bool false] 27)).setRow u2.heap.size (cU (bareU u) rv) = V at HV3 HZ3 HB3 HST HG ⊢
    clear hnew hone2
    generalize u2.heap.size = g at HG HL HA ⊢
    have hV3 := HV3.out
    have hG := HG.out
    have c18 := hV3.cell 18
    rw [(cU_at u pv H8.out).2.2.2.2.2.2.2.2.1] at c18
    have c20 := hV3.cell 20
    rw [(cU_at u pv H8.out).2.2.2.2.2.2.2.2.2.2] at c20
    have hfr : (tb u.frg).size ≤ 281474976710656 := by rw [tb_size]; have := HFu.out; omega
    have HC := Lib.hid (Path.clone_any (tb u.frg) hfr)
    clear hfr
    go_region_law (go_simp; go_at_call 38; refine (HC.out _).mono ?_; rintro e w1 ⟨rfl, hB1⟩; have hX1 : UrlAt w1 (w.heap.size + 1) u pv := UrlAt.later (w := V.drew) HV3.out hB1; have hG1 : UrlAt w1 g (bareU u) rv := UrlAt.later (w := V.drew) HG.out hB1; have d20 := hX1.cell 20; rw [(cU_at u pv H8.out).2.2.2.2.2.2.2.2.2.2] at d20; have g18 := hG1.cell 18; rw [(cU_at (bareU u) rv H8b).2.2.2.2.2.2.2.2.1] at g18; have g20 := hG1.cell 20; rw [(cU_at (bareU u) rv H8b).2.2.2.2.2.2.2.2.2.2] at g20; have f18 := hG1.free 18; have f20 := hG1.free 20)
    all_goals
      have hBV : Below V.heap.size V w1 := below_trans (Below.refl V.heap.size V).drew hB1
      have hz := url_set (url_set (HZ3.out.later hBV) (by have := HL.out; omega : g ≠ w.heap.size + 2) (j := 18) (.string (tb u.frg))) (by have := HL.out; omega : g ≠ w.heap.size + 2) (j := 20) (.bool u.hf)
      have hst := HA.out ((w1.setCell ⟨g, 18, none⟩ (.string (tb u.frg))).setCell ⟨g, 20, none⟩ (.bool u.hf)) w1 (HST.out.later hBV) (fun j hj => (set_other _ _ _ _ (Ne.symm hj)).trans (set_other _ _ _ _ (Ne.symm hj)))
      have hbb := below_set (below_set (Ascii.below2 HB3.out hBV) (by have := HL.out; omega : w.heap.size ≤ g) 18 (.string (tb u.frg))) (by have := HL.out; omega : w.heap.size ≤ g) 20 (.bool u.hf)
      have hX : inhU u v = { bareU u with frg := u.frg, hf := u.hf } := HI1.out (by first | rfl | trivial)
      have hX8 : (inhU u v).h.p.length = 8 := by rw [hX]; exact H8b
      have hu : UrlAt ((w1.setCell ⟨g, 18, none⟩ (.string (tb u.frg))).setCell ⟨g, 20, none⟩ (.bool u.hf)) g (inhU u v) rv := by
        rw [hX]
        exact (hG1.frg H8b u.frg).hf (by exact H8b) u.hf
      have hone2 := strs_one hst
      have hpt : (inhU u v).path = (bareU u).path := by rw [hX]
      have HPT := Lib.hid hpt
      have HNN := HN.out
      clear d20 g18 g20 f18 f20 hX1 hG1 hBV hX hpt hV3 hG c18 c20
      generalize (w1.setCell ⟨g, 18, none⟩ (.string (tb u.frg))).setCell ⟨g, 20, none⟩ (.bool u.hf) = Y at hz hst hbb hu ⊢
      go_wp2_with (first
        | ((with_reducible refine wp_load27 (o := ⟨some 18, .load 27 (.tmp 5), _, _, _, _⟩) ?_ (.tmp 5) ?_ g ?_ (inhU u v) rv hX8 hu ?_); (· rfl); (· rfl); (· rfl); simp only [Act.put, List.setIfInBounds_toArray, List.set_cons_zero, List.set_cons_succ])
        | ((with_reducible refine wp_store27 (o := ⟨none, .store 27 (.tmp 4) (.tmp 18), _, _, _, _⟩) ?_ (.tmp 4) (.tmp 18) ?_ (w.heap.size + 2) ?_ (inhU u v) rv ?_ hX8 hone2 none1 (.slice none 0 0) rfl hz ?_); (· rfl); (· rfl); (· rfl); (· rfl); simp only [Act.put, List.setIfInBounds_toArray, List.set_cons_zero, List.set_cons_succ]))
      exact bodyPost_ret (ret_url rfl (w.heap.size + 2) (inhU u v) rv hX8 rfl (hz.row (inhU u v) rv)) rfl ⟨rv, rfl, by rw [HPT.out]; exact strs_other (w.heap.size + 2) hst HNN (fun k hk => Url.setRow_other _ _ _ (Ne.symm hk)), HNN.mono (by omega), below_row hbb (by omega) _⟩

end Go.Proofs.YtkhjhiofgoampaaGreatDoor.Join
