/-
  The document's Resolve.
-/
import Derived.Test.YtkhjhiofgoampaaGreatDoorJRefB
import Derived.Test.YtkhjhiofgoampaaGreatDoorJRes
namespace Go.Proofs.YtkhjhiofgoampaaGreatDoor.Join
set_option linter.unusedSimpArgs false
set_option linter.unusedVariables false
set_option maxRecDepth 100000


open Go.RowKit Go.Shelf

open Url Show

open Host (none0)

open Path (Strs)

set_option maxRecDepth 100000

theorem byte47 (x : UInt8) : ((x.toNat : Int) == 47) = (x == 47) := by
  rw [Bool.eq_iff_iff, beq_iff_eq, beq_iff_eq]
  exact ⟨fun h => UInt8.toNat_inj.1 (by simpa using (by omega : x.toNat = 47)), fun h => by rw [h]; rfl⟩

theorem pre_at (c : ByteArray) (h0 : 0 < c.size) (h : 1 < c.size) : Lib.hasPrefix c.data.toList two = (((c[0].toNat : Int) == 47) && ((c[1].toNat : Int) == 47)) := by
  have e0 := Pct.drop_cons c 0 h0
  have e1 := Pct.drop_cons c 1 h
  rw [List.drop_zero] at e0
  rw [e0, e1, byte47, byte47, Bool.eq_iff_iff, pre_two, Bool.and_eq_true, beq_iff_eq, beq_iff_eq]
  constructor
  · rintro ⟨r, hr⟩
    injection hr with a b
    injection b with b c
    exact ⟨a, b⟩
  · rintro ⟨a, b⟩
    exact ⟨_, by rw [a, b]⟩

theorem pre_short (c : ByteArray) (h : ¬ 1 < c.size) : Lib.hasPrefix c.data.toList two = false := by
  cases e : Lib.hasPrefix c.data.toList two
  · rfl
  · obtain ⟨r, hr⟩ := (pre_two _).1 e
    have := size_list c
    rw [hr] at this
    simp only [List.length_cons] at this
    omega

/-- What the document's Resolve answers. -/
def GotR (w : World) (u : U) (b : Bool) (e : Ending) (w' : World) : Prop := ∃ pv, e = .returned (.tuple #[.agg (cU u pv), .bool b]) ∧ Strs w' pv u.path ∧ Below w.heap.size w w'

set_option maxHeartbeats 32000000 in
theorem refResolve_any (b : U) (pv : Value) (hf : Fit b) (hp : b.path.length ≤ 1000) (hpt : ∀ t ∈ b.path, t.length ≤ 30000) (s : ByteArray) (hs : s.size ≤ 300) (r : Bool) (hr : okR b s.data.toList = r) (x : U) (hx : resR b s.data.toList = x) (w : World) (hst : Strs w pv b.path) :
    Calls Tryz.prog 12 #[.agg (cU b pv), .string s] w (GotR w x r) := by
  have H8 := Lib.hid hf.h8
  have h1 := UrlAt.new w b pv
  have hb1 := (Below.refl w.heap.size w).alloc (Nat.le_refl _) (.cells (cU b pv) 27)
  have hs1 : (w.alloc (.cells (cU b pv) 27)).heap.size = w.heap.size + 1 := Array.size_push _
  have h2 := UrlAt.new (w.alloc (.cells (cU b pv) 27)) none1 (.slice none 0 0)
  rw [hs1] at h2
  have hB0 : Below w.heap.size w ((w.alloc (.cells (cU b pv) 27)).alloc (.cells #[.string ⟨#[]⟩, .string ⟨#[]⟩, .string ⟨#[]⟩, .int .i64 0, .string ⟨#[]⟩, .int .i64 0, .int .i64 0, .int .i64 0, .int .i64 0, .int .i64 0, .int .i64 0, .int .i64 0, .int .i64 0, .int .i64 0, .int .i64 0, .slice none 0 0, .string ⟨#[]⟩, .string ⟨#[]⟩, .string ⟨#[]⟩, .bool false, .bool false] 27)) := hb1.alloc (by omega) (.cells #[.string ⟨#[]⟩, .string ⟨#[]⟩, .string ⟨#[]⟩, .int .i64 0, .string ⟨#[]⟩, .int .i64 0, .int .i64 0, .int .i64 0, .int .i64 0, .int .i64 0, .int .i64 0, .int .i64 0, .int .i64 0, .int .i64 0, .int .i64 0, .slice none 0 0, .string ⟨#[]⟩, .string ⟨#[]⟩, .string ⟨#[]⟩, .bool false, .bool false] 27)
  have hU : UrlAt ((w.alloc (.cells (cU b pv) 27)).alloc (.cells #[.string ⟨#[]⟩, .string ⟨#[]⟩, .string ⟨#[]⟩, .int .i64 0, .string ⟨#[]⟩, .int .i64 0, .int .i64 0, .int .i64 0, .int .i64 0, .int .i64 0, .int .i64 0, .int .i64 0, .int .i64 0, .int .i64 0, .int .i64 0, .slice none 0 0, .string ⟨#[]⟩, .string ⟨#[]⟩, .string ⟨#[]⟩, .bool false, .bool false] 27)) w.heap.size b pv := h1.past (.cells #[.string ⟨#[]⟩, .string ⟨#[]⟩, .string ⟨#[]⟩, .int .i64 0, .string ⟨#[]⟩, .int .i64 0, .int .i64 0, .int .i64 0, .int .i64 0, .int .i64 0, .int .i64 0, .int .i64 0, .int .i64 0, .int .i64 0, .int .i64 0, .slice none 0 0, .string ⟨#[]⟩, .string ⟨#[]⟩, .string ⟨#[]⟩, .bool false, .bool false] 27)
  have HB0 := Lib.hid hB0
  have HU0 := Lib.hid hU
  have HZ0 := Lib.hid (show UrlAt ((w.alloc (.cells (cU b pv) 27)).alloc (.cells #[.string ⟨#[]⟩, .string ⟨#[]⟩, .string ⟨#[]⟩, .int .i64 0, .string ⟨#[]⟩, .int .i64 0, .int .i64 0, .int .i64 0, .int .i64 0, .int .i64 0, .int .i64 0, .int .i64 0, .int .i64 0, .int .i64 0, .int .i64 0, .slice none 0 0, .string ⟨#[]⟩, .string ⟨#[]⟩, .string ⟨#[]⟩, .bool false, .bool false] 27)) (w.heap.size + 1) none1 (.slice none 0 0) from h2)
  have HSZ := Lib.hid (show ((w.alloc (.cells (cU b pv) 27)).alloc (.cells #[.string ⟨#[]⟩, .string ⟨#[]⟩, .string ⟨#[]⟩, .int .i64 0, .string ⟨#[]⟩, .int .i64 0, .int .i64 0, .int .i64 0, .int .i64 0, .int .i64 0, .int .i64 0, .int .i64 0, .int .i64 0, .int .i64 0, .int .i64 0, .slice none 0 0, .string ⟨#[]⟩, .string ⟨#[]⟩, .string ⟨#[]⟩, .bool false, .bool false] 27)).heap.size = w.heap.size + 2 by
    rw [show ((w.alloc (.cells (cU b pv) 27)).alloc (.cells #[.string ⟨#[]⟩, .string ⟨#[]⟩, .string ⟨#[]⟩, .int .i64 0, .string ⟨#[]⟩, .int .i64 0, .int .i64 0, .int .i64 0, .int .i64 0, .int .i64 0, .int .i64 0, .int .i64 0, .int .i64 0, .int .i64 0, .int .i64 0, .slice none 0 0, .string ⟨#[]⟩, .string ⟨#[]⟩, .string ⟨#[]⟩, .bool false, .bool false] 27)).heap.size = (w.alloc (.cells (cU b pv) 27)).heap.size + 1 from Array.size_push _, hs1])
  have HS0 := Lib.hid hst
  obtain ⟨c, hc⟩ : ∃ c, tb (Ascii.clean s.data.toList) = c := ⟨_, rfl⟩
  have hc1 : c.size ≤ 300 := by rw [size_tb hc]; exact Nat.le_trans (clean_len _) hs
  have hcl := list_tb hc
  have hcc : Ascii.clean c.data.toList = c.data.toList := by rw [hcl]; exact clean_tight _
  obtain ⟨N, hN⟩ : ∃ n, tb b.sch = n := ⟨_, rfl⟩
  have hN1 : N.size ≤ 1000000 := by rw [size_tb hN]; exact hf.sch
  obtain ⟨D, hD⟩ : ∃ d, N ++ ⟨#[58]⟩ ++ c = d := ⟨_, rfl⟩
  have hDl : D.data.toList = b.sch ++ 58 :: Ascii.clean s.data.toList := by rw [← hD, concat_list, list_tb hN, hcl]
  obtain ⟨mb, hmb⟩ : ∃ y, mayU b = y := ⟨_, rfl⟩
  obtain ⟨wb, hwb⟩ : ∃ y, schB c.data.toList = y := ⟨_, rfl⟩
  obtain ⟨z, hz⟩ : ∃ y, webI b.sch = y := ⟨_, rfl⟩
  have hD1 : z ≠ 0 → D.size ≤ 400 := fun h => by
    have hN5 : N.size ≤ 5 := by
      rw [size_tb hN]
      rcases web_cases b.sch with ⟨e, _⟩ | ⟨e, _⟩ | e
      · rw [e]; decide
      · rw [e]; decide
      · exact absurd (hz.symm.trans e) h
    rw [← hD, concat_size]; omega
  obtain ⟨pre, hpre⟩ : ∃ y, Lib.hasPrefix c.data.toList two = y := ⟨_, rfl⟩
  obtain ⟨o1, ho1⟩ : ∃ y, okU c.data.toList = y := ⟨_, rfl⟩
  obtain ⟨o2, ho2⟩ : ∃ y, okU D.data.toList = y := ⟨_, rfl⟩
  have F1 := Lib.hid (show mb = false → r = false ∧ x = none1 from fun h => by
    rw [← hr, ← hx]; unfold okR resR; rw [hmb, h]; exact ⟨rfl, rfl⟩)
  have F2 := Lib.hid (show mb = true → wb = true → r = o1 ∧ x = parU c.data.toList from fun h k => by
    rw [← hr, ← hx, ← ho1]; unfold okR resR okIn resIn okU parU
    rw [hmb, h, if_pos rfl, hcc, hcl, if_pos (by rw [← hcl, hwb, k]), if_pos (by rw [← hcl, hwb, k])]; exact ⟨rfl, rfl⟩)
  have F3 := Lib.hid (show mb = true → wb = false → z = 0 → r = false ∧ x = none1 from fun h k l => by
    rw [← hr, ← hx]; unfold okR resR okIn resIn
    rw [hmb, h, if_pos rfl, if_neg (by rw [← hcl, hwb, k]; simp), if_pos (hz.trans l), if_neg (by rw [← hcl, hwb, k]; simp), if_pos (hz.trans l)]; exact ⟨rfl, rfl⟩)
  have F4 := Lib.hid (show mb = true → wb = false → z ≠ 0 → pre = true → r = o2 ∧ x = parU D.data.toList from fun h k l j => by
    rw [← hr, ← hx, ← ho2, hDl]; unfold okR resR okIn resIn
    rw [hmb, h, if_pos rfl, if_neg (by rw [← hcl, hwb, k]; simp), if_neg (fun e => l (hz.symm.trans e)), if_pos (by rw [← hcl, hpre, j]), if_neg (by rw [← hcl, hwb, k]; simp), if_neg (fun e => l (hz.symm.trans e)), if_pos (by rw [← hcl, hpre, j])]; exact ⟨rfl, rfl⟩)
  have F5 := Lib.hid (show mb = true → wb = false → z ≠ 0 → pre = false → r = true ∧ x = besU b c.data.toList from fun h k l j => by
    rw [← hr, ← hx, hcl]; unfold okR resR okIn resIn
    rw [hmb, h, if_pos rfl, if_neg (by rw [← hcl, hwb, k]; simp), if_neg (fun e => l (hz.symm.trans e)), if_neg (by rw [← hcl, hpre, j]; simp), if_neg (by rw [← hcl, hwb, k]; simp), if_neg (fun e => l (hz.symm.trans e)), if_neg (by rw [← hcl, hpre, j]; simp)]; exact ⟨rfl, rfl⟩)
  have HQ := Lib.hid (show ∀ (h0 : 0 < c.size) (h : 1 < c.size), pre = (((c[0].toNat : Int) == 47) && ((c[1].toNat : Int) == 47)) from fun h0 h => hpre.symm.trans (pre_at c h0 h))
  have HQs := Lib.hid (show ¬ 1 < c.size → pre = false from fun h => hpre.symm.trans (pre_short c h))
  have CM := Lib.hid (fun y hs => refMay_any b pv hf hpt mb hmb y hs)
  have CC := Lib.hid (fun u => show Calls Tryz.prog 33 #[.string s] u fun e w' => e = .returned (.string c) ∧ Below u.heap.size u w' from by rw [← hc]; exact Ascii.refClean_any s (by omega) u)
  have CW := Lib.hid (fun y => refWhole_any s (by omega) wb (show schB (Ascii.clean s.data.toList) = wb by rw [← hcl]; exact hwb) y)
  have CP1 := Lib.hid (fun y => refParse_any c (by omega) o1 ho1 (parU c.data.toList) rfl y)
  have CP2 := Lib.hid (fun (h : z ≠ 0) y => refParse_any D (hD1 h) o2 ho2 (parU D.data.toList) rfl y)
  have CZ := Lib.hid (fun y => refWeb_any N z (by rw [list_tb hN]; exact hz) y)
  have CBs := Lib.hid (fun y hs => refBeside_any b pv hf.h8 hp hpt c (by omega) y hs)
  have H81 := Lib.hid (par8u c.data.toList)
  have H82 := Lib.hid (par8u D.data.toList)
  have H83 := Lib.hid (show (besU b c.data.toList).h.p.length = 8 from hf.h8)
  generalize parU c.data.toList = X1 at F2 CP1 H81
  generalize parU D.data.toList = X2 at F4 CP2 H82
  generalize besU b c.data.toList = X3 at F5 CBs H83
  have HN := Lib.hid hN
  have HN1 := Lib.hid hN1
  have HC1 := Lib.hid hc1
  have HD := Lib.hid hD
  clear h1 h2 hb1 hs1 hB0 hst hf hp hpt hs hr hx hc hc1 hcl hcc hN hN1 hD hD1 hDl hmb hwb hz hpre ho1 ho2
  go_enter Tryz.func12, Tryz.ntmps12
  go_wp2_with ((with_reducible refine wp_load27 (o := ⟨some 13, .load 27 (.tmp 2), _, _, _, _⟩) ?_ (.tmp 2) ?_ w.heap.size ?_ b pv H8.out hU ?_); (· rfl); (· rfl); (· rfl); simp only [Act.put, List.setIfInBounds_toArray, List.set_cons_zero, List.set_cons_succ])
  clear hU
  generalize ((w.alloc (.cells (cU b pv) 27)).alloc (.cells #[.string ⟨#[]⟩, .string ⟨#[]⟩, .string ⟨#[]⟩, .int .i64 0, .string ⟨#[]⟩, .int .i64 0, .int .i64 0, .int .i64 0, .int .i64 0, .int .i64 0, .int .i64 0, .int .i64 0, .int .i64 0, .int .i64 0, .int .i64 0, .slice none 0 0, .string ⟨#[]⟩, .string ⟨#[]⟩, .string ⟨#[]⟩, .bool false, .bool false] 27)) = W at HB0 HU0 HZ0 HSZ ⊢
  refine (CM.out _ (HS0.out.later HB0.out)).mono ?_
  rintro e u1 ⟨rfl, hB⟩
  have HL1 := Lib.hid (show w.heap.size + 2 ≤ u1.heap.size from by rw [← HSZ.out]; exact hB.size)
  have HB1 := Lib.hid (Ascii.below2 HB0.out hB)
  have HU1 := Lib.hid (HU0.out.later hB)
  have HZ1 := Lib.hid (HZ0.out.later hB)
  clear hB HB0 HU0 HZ0
  clear CM HSZ
  go_wp2_with fail
  refine (CW.out _).mono ?_
  rintro e u2 ⟨rfl, hB⟩
  have HG2 := Lib.hid (show u1.heap.size ≤ u2.heap.size from hB.size)
  have HB2 := Lib.hid (Ascii.below2 HB1.out hB)
  have HU2 := Lib.hid (HU1.out.later hB)
  have HZ2 := Lib.hid (HZ1.out.later hB)
  clear hB HB1 HU1 HZ1
  go_wp2_with fail
  refine (CC.out _).mono ?_
  rintro e u3 ⟨rfl, hB⟩
  have HG := Lib.hid (show u1.heap.size ≤ u3.heap.size from Nat.le_trans HG2.out hB.size)
  have HB3 := Lib.hid (Ascii.below2 HB2.out hB)
  have HU3 := Lib.hid (HU2.out.later hB)
  have HZ3 := Lib.hid (HZ2.out.later hB)
  clear hB HB2 HU2 HZ2
  clear CC CW HG2
  cases mb
  · obtain ⟨rfl, rfl⟩ := F1.out (by first | rfl | trivial)
    have hz := HZ3.out
    go_wp2_with ((with_reducible refine wp_store27 (o := ⟨none, .store 27 (.tmp 4) (.tmp 21), _, _, _, _⟩) ?_ (.tmp 4) (.tmp 21) ?_ (w.heap.size + 1) ?_ none1 (.slice none 0 0) ?_ rfl rfl none1 (.slice none 0 0) rfl hz ?_); (· rfl); (· rfl); (· rfl); (· exact congrArg Value.agg zero_url); simp only [Act.put, List.setIfInBounds_toArray, List.set_cons_zero, List.set_cons_succ])
    exact bodyPost_ret (ret_two rfl (w.heap.size + 1) none1 (.slice none 0 0) rfl (.bool false) rfl rfl (hz.row none1 (.slice none 0 0))) rfl ⟨_, rfl, Path.Strs.nil _, below_row HB3.out (Nat.le_succ _) _⟩
  cases wb
  · clear F2 F1 CP1 H81
    have c0 := HU3.out.cell 0
    rw [(cU_at b pv H8.out).1, HN.out] at c0
    go_wp2_with fail
    refine (CZ.out _).mono ?_
    rintro e u4 ⟨rfl, rfl⟩
    by_cases h0 : z = 0
    · subst h0
      obtain ⟨rfl, rfl⟩ := F3.out (by first | rfl | trivial) (by first | rfl | trivial) (by first | rfl | trivial)
      have hz := HZ3.out
      go_wp2_with ((with_reducible refine wp_store27 (o := ⟨none, .store 27 (.tmp 4) (.tmp 34), _, _, _, _⟩) ?_ (.tmp 4) (.tmp 34) ?_ (w.heap.size + 1) ?_ none1 (.slice none 0 0) ?_ rfl rfl none1 (.slice none 0 0) rfl hz ?_); (· rfl); (· rfl); (· rfl); (· exact congrArg Value.agg zero_url); simp only [Act.put, List.setIfInBounds_toArray, List.set_cons_zero, List.set_cons_succ])
      exact bodyPost_ret (ret_two rfl (w.heap.size + 1) none1 (.slice none 0 0) rfl (.bool false) rfl rfl (hz.row none1 (.slice none 0 0))) rfl ⟨_, rfl, Path.Strs.nil _, below_row HB3.out (Nat.le_succ _) _⟩
    have q0 : (z == 0) = false := beq_eq_false_iff_ne.2 h0
    by_cases h1 : 1 < c.size
    · have h00 : 0 < c.size := by omega
      have q1 : decide ((1 : Int) < (c.size : Int)) = true := decide_eq_true (by omega)
      have q1' : decide (1 < c.size) = true := decide_eq_true h1
      obtain ⟨b1, q47⟩ : ∃ y, ((c[0].toNat : Int) == 47) = y := ⟨_, rfl⟩
      obtain ⟨b2, q48⟩ : ∃ y, ((c[1].toNat : Int) == 47) = y := ⟨_, rfl⟩
      cases b1
      · have HPre := Lib.hid (show pre = false from by first | exact HQs.out h1 | (rw [HQ.out h00 h1, q47, q48]; rfl) | (rw [HQ.out h00 h1, q47]; rfl))
        clear HQ HQs
        have hu := HU3.out
        clear c0
        go_wp2_with ((with_reducible refine wp_load27 (o := ⟨some 59, .load 27 (.tmp 2), _, _, _, _⟩) ?_ (.tmp 2) ?_ w.heap.size ?_ b pv H8.out hu ?_); (· rfl); (· rfl); (· rfl); simp only [Act.put, List.setIfInBounds_toArray, List.set_cons_zero, List.set_cons_succ])
        refine (CBs.out _ (HS0.out.later HB3.out)).mono ?_
        rintro e u9 ⟨qv, rfl, hst, hnw, hB⟩
        have hone := strs_one hst
        obtain ⟨rfl, rfl⟩ := F5.out (by first | rfl | trivial) (by first | rfl | trivial) h0 HPre.out
        have hz := HZ3.out.later hB
        have hB2 := Ascii.below2 HB3.out hB
        have hx8 := H83.out
        have ha : Apart (w.heap.size + 1) qv x.path := by
          rcases hnw with ⟨e1, e2⟩ | h
          · rw [e1, e2]; exact apart_old HS0.out (Nat.le_succ _)
          · exact apart_new (h.mono (Nat.le_trans HL1.out HG.out))
        clear hnw
        go_wp2_with ((with_reducible refine wp_store27 (o := ⟨none, .store 27 (.tmp 4) (.tmp 61), _, _, _, _⟩) ?_ (.tmp 4) (.tmp 61) ?_ (w.heap.size + 1) ?_ x qv ?_ hx8 hone none1 (.slice none 0 0) rfl hz ?_); (· rfl); (· rfl); (· rfl); (· rfl); simp only [Act.put, List.setIfInBounds_toArray, List.set_cons_zero, List.set_cons_succ])
        exact bodyPost_ret (ret_two rfl (w.heap.size + 1) x qv hx8 (.bool true) rfl rfl (hz.row x qv)) rfl ⟨qv, rfl, strs_apart hst ha (fun k hk => Url.setRow_other _ _ _ (Ne.symm hk)), below_row hB2 (Nat.le_succ _) _⟩
      cases b2
      · have HPre := Lib.hid (show pre = false from by first | exact HQs.out h1 | (rw [HQ.out h00 h1, q47, q48]; rfl) | (rw [HQ.out h00 h1, q47]; rfl))
        clear HQ HQs
        have hu := HU3.out
        clear c0
        go_wp2_with ((with_reducible refine wp_load27 (o := ⟨some 59, .load 27 (.tmp 2), _, _, _, _⟩) ?_ (.tmp 2) ?_ w.heap.size ?_ b pv H8.out hu ?_); (· rfl); (· rfl); (· rfl); simp only [Act.put, List.setIfInBounds_toArray, List.set_cons_zero, List.set_cons_succ])
        refine (CBs.out _ (HS0.out.later HB3.out)).mono ?_
        rintro e u9 ⟨qv, rfl, hst, hnw, hB⟩
        have hone := strs_one hst
        obtain ⟨rfl, rfl⟩ := F5.out (by first | rfl | trivial) (by first | rfl | trivial) h0 HPre.out
        have hz := HZ3.out.later hB
        have hB2 := Ascii.below2 HB3.out hB
        have hx8 := H83.out
        have ha : Apart (w.heap.size + 1) qv x.path := by
          rcases hnw with ⟨e1, e2⟩ | h
          · rw [e1, e2]; exact apart_old HS0.out (Nat.le_succ _)
          · exact apart_new (h.mono (Nat.le_trans HL1.out HG.out))
        clear hnw
        go_wp2_with ((with_reducible refine wp_store27 (o := ⟨none, .store 27 (.tmp 4) (.tmp 61), _, _, _, _⟩) ?_ (.tmp 4) (.tmp 61) ?_ (w.heap.size + 1) ?_ x qv ?_ hx8 hone none1 (.slice none 0 0) rfl hz ?_); (· rfl); (· rfl); (· rfl); (· rfl); simp only [Act.put, List.setIfInBounds_toArray, List.set_cons_zero, List.set_cons_succ])
        exact bodyPost_ret (ret_two rfl (w.heap.size + 1) x qv hx8 (.bool true) rfl rfl (hz.row x qv)) rfl ⟨qv, rfl, strs_apart hst ha (fun k hk => Url.setRow_other _ _ _ (Ne.symm hk)), below_row hB2 (Nat.le_succ _) _⟩
      have HPre := Lib.hid (show pre = true from by first | exact HQs.out h1 | (rw [HQ.out h00 h1, q47, q48]; rfl) | (rw [HQ.out h00 h1, q47]; rfl))
      clear HQ HQs
      have hn1 := HN1.out
      have hc1 := HC1.out
      have hd := HD.out
      go_wp2_with fail
      clear hn1 hc1 c0
      refine (CP2.out h0 _).mono ?_
      rintro e u9 ⟨qv, rfl, hst, hn, hB⟩
      have hone := strs_one hst
      have hn2 : Path.New (w.heap.size + 2) qv := hn.mono (Nat.le_trans HL1.out HG.out)
      obtain ⟨rfl, rfl⟩ := F4.out (by first | rfl | trivial) (by first | rfl | trivial) h0 HPre.out
      have HZ9 := Lib.hid (HZ3.out.later hB)
      have HB9 := Lib.hid (Ascii.below2 HB3.out hB)
      have HG9 := Lib.hid (Nat.le_trans (Nat.le_trans HL1.out HG.out) hB.size)
      have HST := Lib.hid hst
      have HN2 := Lib.hid hn2
      have hx8 := H82.out
      have hnew := new_url u9
      have hC := below_url u9 x qv
      have HZa := Lib.hid (HZ9.out.later hC)
      have hBa := Ascii.below2 HB9.out hC
      have HSa := Lib.hid (HST.out.later hC)
      have hga := hnew.row x qv
      clear hst hn hn2 hB
      have hz := HZa.out
      have HBa := Lib.hid hBa
      clear hBa hC HB9 HZ9
      go_wp2_with (first
        | ((with_reducible refine wp_store27 (o := ⟨none, .store 27 (.tmp 11) (.tmp 55), _, _, _, _⟩) ?_ (.tmp 11) (.tmp 55) ?_ u9.heap.size ?_ x qv ?_ hx8 hone none1 (.slice none 0 0) rfl hnew ?_); (· rfl); (· rfl); (· rfl); (· rfl); simp only [Act.put, List.setIfInBounds_toArray, List.set_cons_zero, List.set_cons_succ])
        | ((with_reducible refine wp_load27 (o := ⟨some 57, .load 27 (.tmp 11), _, _, _, _⟩) ?_ (.tmp 11) ?_ u9.heap.size ?_ x qv hx8 hga ?_); (· rfl); (· rfl); (· rfl); simp only [Act.put, List.setIfInBounds_toArray, List.set_cons_zero, List.set_cons_succ])
        | ((with_reducible refine wp_store27 (o := ⟨none, .store 27 (.tmp 4) (.tmp 57), _, _, _, _⟩) ?_ (.tmp 4) (.tmp 57) ?_ (w.heap.size + 1) ?_ x qv ?_ hx8 hone none1 (.slice none 0 0) rfl hz ?_); (· rfl); (· rfl); (· rfl); (· rfl); simp only [Act.put, List.setIfInBounds_toArray, List.set_cons_zero, List.set_cons_succ]))
      exact bodyPost_ret (ret_two rfl (w.heap.size + 1) x qv hx8 (.bool r) rfl rfl (hz.row x qv)) rfl ⟨qv, rfl, strs_other (w.heap.size + 1) HSa.out HN2.out (fun k hk => Url.setRow_other _ _ _ (Ne.symm hk)), below_row HBa.out (Nat.le_succ _) _⟩
    · have q1 : decide ((1 : Int) < (c.size : Int)) = false := decide_eq_false (by omega)
      have q1' : decide (1 < c.size) = false := decide_eq_false h1
      have HPre := Lib.hid (show pre = false from by first | exact HQs.out h1 | (rw [HQ.out h00 h1, q47, q48]; rfl) | (rw [HQ.out h00 h1, q47]; rfl))
      clear HQ HQs
      have hu := HU3.out
      clear c0
      go_wp2_with ((with_reducible refine wp_load27 (o := ⟨some 59, .load 27 (.tmp 2), _, _, _, _⟩) ?_ (.tmp 2) ?_ w.heap.size ?_ b pv H8.out hu ?_); (· rfl); (· rfl); (· rfl); simp only [Act.put, List.setIfInBounds_toArray, List.set_cons_zero, List.set_cons_succ])
      refine (CBs.out _ (HS0.out.later HB3.out)).mono ?_
      rintro e u9 ⟨qv, rfl, hst, hnw, hB⟩
      have hone := strs_one hst
      obtain ⟨rfl, rfl⟩ := F5.out (by first | rfl | trivial) (by first | rfl | trivial) h0 HPre.out
      have hz := HZ3.out.later hB
      have hB2 := Ascii.below2 HB3.out hB
      have hx8 := H83.out
      have ha : Apart (w.heap.size + 1) qv x.path := by
        rcases hnw with ⟨e1, e2⟩ | h
        · rw [e1, e2]; exact apart_old HS0.out (Nat.le_succ _)
        · exact apart_new (h.mono (Nat.le_trans HL1.out HG.out))
      clear hnw
      go_wp2_with ((with_reducible refine wp_store27 (o := ⟨none, .store 27 (.tmp 4) (.tmp 61), _, _, _, _⟩) ?_ (.tmp 4) (.tmp 61) ?_ (w.heap.size + 1) ?_ x qv ?_ hx8 hone none1 (.slice none 0 0) rfl hz ?_); (· rfl); (· rfl); (· rfl); (· rfl); simp only [Act.put, List.setIfInBounds_toArray, List.set_cons_zero, List.set_cons_succ])
      exact bodyPost_ret (ret_two rfl (w.heap.size + 1) x qv hx8 (.bool true) rfl rfl (hz.row x qv)) rfl ⟨qv, rfl, strs_apart hst ha (fun k hk => Url.setRow_other _ _ _ (Ne.symm hk)), below_row hB2 (Nat.le_succ _) _⟩
  · go_wp2_with fail
    refine (CP1.out _).mono ?_
    rintro e u9 ⟨qv, rfl, hst, hn, hB⟩
    have hone := strs_one hst
    have hn2 : Path.New (w.heap.size + 2) qv := hn.mono (Nat.le_trans HL1.out HG.out)
    obtain ⟨rfl, rfl⟩ := F2.out (by first | rfl | trivial) (by first | rfl | trivial)
    have HZ9 := Lib.hid (HZ3.out.later hB)
    have HB9 := Lib.hid (Ascii.below2 HB3.out hB)
    have HG9 := Lib.hid (Nat.le_trans (Nat.le_trans HL1.out HG.out) hB.size)
    have HST := Lib.hid hst
    have HN2 := Lib.hid hn2
    have hx8 := H81.out
    have hnew := new_url u9
    have hC := below_url u9 x qv
    have HZa := Lib.hid (HZ9.out.later hC)
    have hBa := Ascii.below2 HB9.out hC
    have HSa := Lib.hid (HST.out.later hC)
    have hga := hnew.row x qv
    clear hst hn hn2 hB
    have hz := HZa.out
    have HBa := Lib.hid hBa
    clear hBa hC HB9 HZ9
    go_wp2_with (first
      | ((with_reducible refine wp_store27 (o := ⟨none, .store 27 (.tmp 9) (.tmp 26), _, _, _, _⟩) ?_ (.tmp 9) (.tmp 26) ?_ u9.heap.size ?_ x qv ?_ hx8 hone none1 (.slice none 0 0) rfl hnew ?_); (· rfl); (· rfl); (· rfl); (· rfl); simp only [Act.put, List.setIfInBounds_toArray, List.set_cons_zero, List.set_cons_succ])
      | ((with_reducible refine wp_load27 (o := ⟨some 28, .load 27 (.tmp 9), _, _, _, _⟩) ?_ (.tmp 9) ?_ u9.heap.size ?_ x qv hx8 hga ?_); (· rfl); (· rfl); (· rfl); simp only [Act.put, List.setIfInBounds_toArray, List.set_cons_zero, List.set_cons_succ])
      | ((with_reducible refine wp_store27 (o := ⟨none, .store 27 (.tmp 4) (.tmp 28), _, _, _, _⟩) ?_ (.tmp 4) (.tmp 28) ?_ (w.heap.size + 1) ?_ x qv ?_ hx8 hone none1 (.slice none 0 0) rfl hz ?_); (· rfl); (· rfl); (· rfl); (· rfl); simp only [Act.put, List.setIfInBounds_toArray, List.set_cons_zero, List.set_cons_succ]))
    exact bodyPost_ret (ret_two rfl (w.heap.size + 1) x qv hx8 (.bool r) rfl rfl (hz.row x qv)) rfl ⟨qv, rfl, strs_other (w.heap.size + 1) HSa.out HN2.out (fun k hk => Url.setRow_other _ _ _ (Ne.symm hk)), below_row HBa.out (Nat.le_succ _) _⟩

end Go.Proofs.YtkhjhiofgoampaaGreatDoor.Join
