/-
  What an address tells, asked by an assertion: nothing, where it may not be or is not of the web.
  What a level is, as a value; Tell, Origin, Full, Cap.
-/
import Derived.Test.YtbmnhmbicefemaaGreatDoorStText
namespace Go.Proofs.YtbmnhmbicefemaaGreatDoor.Strip
set_option linter.unusedSimpArgs false
set_option linter.unusedVariables false
set_option maxRecDepth 100000


open Go.RowKit Go.Shelf

open Url Show Origin

open Host (H none0 mayH showH localH)

open Path (Strs)

set_option maxRecDepth 100000

set_option maxHeartbeats 16000000 in
theorem ask_src (u : U) (pv : Value) (hf : Fit u) (b : Bool) (hb : tells u = b) (x : ByteArray) (hx : tb (orgT u) = x) (m : Int) (w : World) (hm : Six.At m w) (hs : Strs w pv u.path) (hk : u.h.k = 3 → Six.Known) :
    Calls Tryz.prog 40 #[.agg (cU u pv), .iface 58 (.agg (cU u pv))] w fun e w' => e = .returned (.tuple #[.string x, .bool b]) ∧ Below w.heap.size w w' := by
  have H8 := Lib.hid hf.h8
  have HB0 := Lib.hid (show Below w.heap.size w (w.alloc (.cells (cU u pv) 27)) from (Below.refl _ w).alloc (Nat.le_refl _) _)
  have HU := Lib.hid (UrlAt.new w u pv)
  have HM := Lib.hid (hm.later HB0.out)
  have HS := Lib.hid (hs.later HB0.out)
  obtain ⟨M, hM⟩ : ∃ b, mayU u = b := ⟨_, rfl⟩
  obtain ⟨z, hz⟩ : ∃ z, webI u.sch = z := ⟨_, rfl⟩
  have CM := Lib.hid (fun v hm hs => Url.may_any u pv hf M hM m v hm hs)
  have CW := Lib.hid (fun v => web_at u.sch z hz v)
  have hn : (M = false ∨ z = 0) → tells u = false := fun h => tells_not fun k => by
    rcases h with h | h
    · rw [hM, h] at k; cases k.1
    · exact k.2 (hz.trans h)
  have HN := Lib.hid (show (M = false ∨ z = 0) → b = false ∧ x = ⟨#[]⟩ from fun h => ⟨hb.symm.trans (hn h), by rw [← hx]; unfold orgT; rw [hn h]; rfl⟩)
  clear hn
  have HY := Lib.hid (show M = true → z ≠ 0 → tells u = true from fun h k => tells_of (hM.trans h) (fun e => k (hz.symm.trans e)))
  have CT := Lib.hid (fun y hy v hm hs => text_src u pv hf y hy m v hm hs hk)
  have n1 := is_src (.agg (cU u pv))
  have n2 := fun v => method_src (cU u pv) v 339
  clear hf hM hz hm hs hk
  have hu := HU.out
  have c0 := HU.out.cell 0
  rw [(cU_at u pv H8.out).1] at c0
  go_enter Tryz.func40, Tryz.ntmps40
  go_upto_region 1 with fail
  cases M
  · obtain ⟨rfl, rfl⟩ := HN.out (.inl (by first | rfl | trivial))
    clear HN HY
    go_wp2_with ((with_reducible refine wp_load27 (o := ⟨some 8, .load 27 (.tmp 2), _, _, _, _⟩) ?_ (.tmp 2) ?_ w.heap.size ?_ u pv H8.out hu ?_); (· rfl); (· rfl); (· rfl); simp only [Act.put, List.setIfInBounds_toArray, List.set_cons_zero, List.set_cons_succ])
    clear hu
    generalize (w.alloc (.cells (cU u pv) 27)) = W at HB0 HU HM HS c0 ⊢
    refine (CM.out _ HM.out HS.out).mono ?_
    rintro e u1 ⟨rfl, hB⟩
    have HB1 := Lib.hid (Ascii.below2 HB0.out hB)
    clear hB CM HB0 HU HM HS c0
    go_wp2
    go_ret2
    exact ⟨by rfl, HB1.out⟩
  · go_wp2_with ((with_reducible refine wp_load27 (o := ⟨some 8, .load 27 (.tmp 2), _, _, _, _⟩) ?_ (.tmp 2) ?_ w.heap.size ?_ u pv H8.out hu ?_); (· rfl); (· rfl); (· rfl); simp only [Act.put, List.setIfInBounds_toArray, List.set_cons_zero, List.set_cons_succ])
    clear hu
    generalize (w.alloc (.cells (cU u pv) 27)) = W at HB0 HU HM HS c0 ⊢
    refine (CM.out _ HM.out HS.out).mono ?_
    rintro e u1 ⟨rfl, hB⟩
    have HB1 := Lib.hid (Ascii.below2 HB0.out hB)
    have HM1 := Lib.hid (HM.out.later hB)
    have HS1 := Lib.hid (HS.out.later hB)
    have HU1 := Lib.hid (HU.out.later hB)
    clear hB CM HB0 HU HM HS c0
    have c0 := HU1.out.cell 0
    rw [(cU_at u pv H8.out).1] at c0
    go_wp2_with fail
    refine (CW.out _).mono ?_
    rintro e X ⟨rfl, rfl⟩
    clear CW c0
    by_cases h0 : z = 0
    · subst h0
      obtain ⟨rfl, rfl⟩ := HN.out (.inr (by first | rfl | trivial))
      clear HN HY
      go_wp2
      go_ret2
      exact ⟨by rfl, HB1.out⟩
    · have q0 : (z == 0) = false := beq_eq_false_iff_ne.2 h0
      have ht := HY.out (by first | rfl | trivial) h0
      have hy : tb (srcT u) = x := by rw [← hx]; unfold orgT; rw [ht]; rfl
      have CX := Lib.hid (fun v hm hs => CT.out x hy v hm hs)
      have hb' : true = b := ht.symm.trans hb
      subst hb'
      clear CT hy hx hb ht
      go_wp2_with fail
      refine (CX.out _ HM1.out HS1.out).mono ?_
      rintro e u2 ⟨rfl, hB⟩
      have HB2 := Lib.hid (Ascii.below2 HB1.out hB)
      clear hB
      go_wp2
      go_ret2
      exact ⟨rfl, HB2.out⟩

set_option maxHeartbeats 16000000 in
theorem ask_whl (u : U) (pv : Value) (hf : Fit u) (b : Bool) (hb : tells u = b) (x : ByteArray) (hx : tb (fullT u) = x) (m : Int) (w : World) (hm : Six.At m w) (hs : Strs w pv u.path) (hk : u.h.k = 3 → Six.Known) :
    Calls Tryz.prog 40 #[.agg (cU u pv), .iface 59 (.agg (cU u pv))] w fun e w' => e = .returned (.tuple #[.string x, .bool b]) ∧ Below w.heap.size w w' := by
  have H8 := Lib.hid hf.h8
  have HB0 := Lib.hid (show Below w.heap.size w (w.alloc (.cells (cU u pv) 27)) from (Below.refl _ w).alloc (Nat.le_refl _) _)
  have HU := Lib.hid (UrlAt.new w u pv)
  have HM := Lib.hid (hm.later HB0.out)
  have HS := Lib.hid (hs.later HB0.out)
  obtain ⟨M, hM⟩ : ∃ b, mayU u = b := ⟨_, rfl⟩
  obtain ⟨z, hz⟩ : ∃ z, webI u.sch = z := ⟨_, rfl⟩
  have CM := Lib.hid (fun v hm hs => Url.may_any u pv hf M hM m v hm hs)
  have CW := Lib.hid (fun v => web_at u.sch z hz v)
  have hn : (M = false ∨ z = 0) → tells u = false := fun h => tells_not fun k => by
    rcases h with h | h
    · rw [hM, h] at k; cases k.1
    · exact k.2 (hz.trans h)
  have HN := Lib.hid (show (M = false ∨ z = 0) → b = false ∧ x = ⟨#[]⟩ from fun h => ⟨hb.symm.trans (hn h), by rw [← hx]; unfold fullT; rw [hn h]; rfl⟩)
  clear hn
  have HY := Lib.hid (show M = true → z ≠ 0 → tells u = true from fun h k => tells_of (hM.trans h) (fun e => k (hz.symm.trans e)))
  have CT := Lib.hid (fun y hy v hm hs => text_whl u pv hf y hy m v hm hs hk)
  have n1 := is_whl (.agg (cU u pv))
  have n2 := fun v => method_whl (cU u pv) v 339
  clear hf hM hz hm hs hk
  have hu := HU.out
  have c0 := HU.out.cell 0
  rw [(cU_at u pv H8.out).1] at c0
  go_enter Tryz.func40, Tryz.ntmps40
  go_upto_region 1 with fail
  cases M
  · obtain ⟨rfl, rfl⟩ := HN.out (.inl (by first | rfl | trivial))
    clear HN HY
    go_wp2_with ((with_reducible refine wp_load27 (o := ⟨some 8, .load 27 (.tmp 2), _, _, _, _⟩) ?_ (.tmp 2) ?_ w.heap.size ?_ u pv H8.out hu ?_); (· rfl); (· rfl); (· rfl); simp only [Act.put, List.setIfInBounds_toArray, List.set_cons_zero, List.set_cons_succ])
    clear hu
    generalize (w.alloc (.cells (cU u pv) 27)) = W at HB0 HU HM HS c0 ⊢
    refine (CM.out _ HM.out HS.out).mono ?_
    rintro e u1 ⟨rfl, hB⟩
    have HB1 := Lib.hid (Ascii.below2 HB0.out hB)
    clear hB CM HB0 HU HM HS c0
    go_wp2
    go_ret2
    exact ⟨by rfl, HB1.out⟩
  · go_wp2_with ((with_reducible refine wp_load27 (o := ⟨some 8, .load 27 (.tmp 2), _, _, _, _⟩) ?_ (.tmp 2) ?_ w.heap.size ?_ u pv H8.out hu ?_); (· rfl); (· rfl); (· rfl); simp only [Act.put, List.setIfInBounds_toArray, List.set_cons_zero, List.set_cons_succ])
    clear hu
    generalize (w.alloc (.cells (cU u pv) 27)) = W at HB0 HU HM HS c0 ⊢
    refine (CM.out _ HM.out HS.out).mono ?_
    rintro e u1 ⟨rfl, hB⟩
    have HB1 := Lib.hid (Ascii.below2 HB0.out hB)
    have HM1 := Lib.hid (HM.out.later hB)
    have HS1 := Lib.hid (HS.out.later hB)
    have HU1 := Lib.hid (HU.out.later hB)
    clear hB CM HB0 HU HM HS c0
    have c0 := HU1.out.cell 0
    rw [(cU_at u pv H8.out).1] at c0
    go_wp2_with fail
    refine (CW.out _).mono ?_
    rintro e X ⟨rfl, rfl⟩
    clear CW c0
    by_cases h0 : z = 0
    · subst h0
      obtain ⟨rfl, rfl⟩ := HN.out (.inr (by first | rfl | trivial))
      clear HN HY
      go_wp2
      go_ret2
      exact ⟨by rfl, HB1.out⟩
    · have q0 : (z == 0) = false := beq_eq_false_iff_ne.2 h0
      have ht := HY.out (by first | rfl | trivial) h0
      have hy : tb (whlT u) = x := by rw [← hx]; unfold fullT; rw [ht]; rfl
      have CX := Lib.hid (fun v hm hs => CT.out x hy v hm hs)
      have hb' : true = b := ht.symm.trans hb
      subst hb'
      clear CT hy hx hb ht
      go_wp2_with fail
      refine (CX.out _ HM1.out HS1.out).mono ?_
      rintro e u2 ⟨rfl, hB⟩
      have HB2 := Lib.hid (Ascii.below2 HB1.out hB)
      clear hB
      go_wp2
      go_ret2
      exact ⟨rfl, HB2.out⟩

set_option maxHeartbeats 16000000 in
theorem ask_cap (u : U) (pv : Value) (hf : Fit u) (b : Bool) (hb : tells u = b) (x : ByteArray) (hx : tb (capT u) = x) (m : Int) (w : World) (hm : Six.At m w) (hs : Strs w pv u.path) (hk : u.h.k = 3 → Six.Known) :
    Calls Tryz.prog 40 #[.agg (cU u pv), .iface 109 (.agg (cU u pv))] w fun e w' => e = .returned (.tuple #[.string x, .bool b]) ∧ Below w.heap.size w w' := by
  have H8 := Lib.hid hf.h8
  have HB0 := Lib.hid (show Below w.heap.size w (w.alloc (.cells (cU u pv) 27)) from (Below.refl _ w).alloc (Nat.le_refl _) _)
  have HU := Lib.hid (UrlAt.new w u pv)
  have HM := Lib.hid (hm.later HB0.out)
  have HS := Lib.hid (hs.later HB0.out)
  obtain ⟨M, hM⟩ : ∃ b, mayU u = b := ⟨_, rfl⟩
  obtain ⟨z, hz⟩ : ∃ z, webI u.sch = z := ⟨_, rfl⟩
  have CM := Lib.hid (fun v hm hs => Url.may_any u pv hf M hM m v hm hs)
  have CW := Lib.hid (fun v => web_at u.sch z hz v)
  have hn : (M = false ∨ z = 0) → tells u = false := fun h => tells_not fun k => by
    rcases h with h | h
    · rw [hM, h] at k; cases k.1
    · exact k.2 (hz.trans h)
  have HN := Lib.hid (show (M = false ∨ z = 0) → b = false ∧ x = ⟨#[]⟩ from fun h => ⟨hb.symm.trans (hn h), by rw [← hx]; unfold capT; rw [hn h]; rfl⟩)
  clear hn
  have HY := Lib.hid (show M = true → z ≠ 0 → tells u = true from fun h k => tells_of (hM.trans h) (fun e => k (hz.symm.trans e)))
  have CT := Lib.hid (fun y hy v hm hs => text_cap u pv hf y hy m v hm hs hk)
  have n1 := is_cap (.agg (cU u pv))
  have n2 := fun v => method_cap (cU u pv) v 339
  clear hf hM hz hm hs hk
  have hu := HU.out
  have c0 := HU.out.cell 0
  rw [(cU_at u pv H8.out).1] at c0
  go_enter Tryz.func40, Tryz.ntmps40
  go_upto_region 1 with fail
  cases M
  · obtain ⟨rfl, rfl⟩ := HN.out (.inl (by first | rfl | trivial))
    clear HN HY
    go_wp2_with ((with_reducible refine wp_load27 (o := ⟨some 8, .load 27 (.tmp 2), _, _, _, _⟩) ?_ (.tmp 2) ?_ w.heap.size ?_ u pv H8.out hu ?_); (· rfl); (· rfl); (· rfl); simp only [Act.put, List.setIfInBounds_toArray, List.set_cons_zero, List.set_cons_succ])
    clear hu
    generalize (w.alloc (.cells (cU u pv) 27)) = W at HB0 HU HM HS c0 ⊢
    refine (CM.out _ HM.out HS.out).mono ?_
    rintro e u1 ⟨rfl, hB⟩
    have HB1 := Lib.hid (Ascii.below2 HB0.out hB)
    clear hB CM HB0 HU HM HS c0
    go_wp2
    go_ret2
    exact ⟨by rfl, HB1.out⟩
  · go_wp2_with ((with_reducible refine wp_load27 (o := ⟨some 8, .load 27 (.tmp 2), _, _, _, _⟩) ?_ (.tmp 2) ?_ w.heap.size ?_ u pv H8.out hu ?_); (· rfl); (· rfl); (· rfl); simp only [Act.put, List.setIfInBounds_toArray, List.set_cons_zero, List.set_cons_succ])
    clear hu
    generalize (w.alloc (.cells (cU u pv) 27)) = W at HB0 HU HM HS c0 ⊢
    refine (CM.out _ HM.out HS.out).mono ?_
    rintro e u1 ⟨rfl, hB⟩
    have HB1 := Lib.hid (Ascii.below2 HB0.out hB)
    have HM1 := Lib.hid (HM.out.later hB)
    have HS1 := Lib.hid (HS.out.later hB)
    have HU1 := Lib.hid (HU.out.later hB)
    clear hB CM HB0 HU HM HS c0
    have c0 := HU1.out.cell 0
    rw [(cU_at u pv H8.out).1] at c0
    go_wp2_with fail
    refine (CW.out _).mono ?_
    rintro e X ⟨rfl, rfl⟩
    clear CW c0
    by_cases h0 : z = 0
    · subst h0
      obtain ⟨rfl, rfl⟩ := HN.out (.inr (by first | rfl | trivial))
      clear HN HY
      go_wp2
      go_ret2
      exact ⟨by rfl, HB1.out⟩
    · have q0 : (z == 0) = false := beq_eq_false_iff_ne.2 h0
      have ht := HY.out (by first | rfl | trivial) h0
      have hy : tb (capW u) = x := by rw [← hx]; unfold capT; rw [ht]; rfl
      have CX := Lib.hid (fun v hm hs => CT.out x hy v hm hs)
      have hb' : true = b := ht.symm.trans hb
      subst hb'
      clear CT hy hx hb ht
      go_wp2_with fail
      refine (CX.out _ HM1.out HS1.out).mono ?_
      rintro e u2 ⟨rfl, hB⟩
      have HB2 := Lib.hid (Ascii.below2 HB1.out hB)
      clear hB
      go_wp2
      go_ret2
      exact ⟨rfl, HB2.out⟩

set_option maxHeartbeats 16000000 in
theorem ask_nil (u : U) (pv : Value) (hf : Fit u) (b : Bool) (hb : tells u = b) (x : ByteArray) (hx : (⟨#[]⟩ : ByteArray) = x) (m : Int) (w : World) (hm : Six.At m w) (hs : Strs w pv u.path) (hk : u.h.k = 3 → Six.Known) :
    Calls Tryz.prog 40 #[.agg (cU u pv), .nilIface] w fun e w' => e = .returned (.tuple #[.string x, .bool false]) ∧ Below w.heap.size w w' := by
  have H8 := Lib.hid hf.h8
  have HB0 := Lib.hid (show Below w.heap.size w (w.alloc (.cells (cU u pv) 27)) from (Below.refl _ w).alloc (Nat.le_refl _) _)
  have HU := Lib.hid (UrlAt.new w u pv)
  have HM := Lib.hid (hm.later HB0.out)
  have HS := Lib.hid (hs.later HB0.out)
  obtain ⟨M, hM⟩ : ∃ b, mayU u = b := ⟨_, rfl⟩
  obtain ⟨z, hz⟩ : ∃ z, webI u.sch = z := ⟨_, rfl⟩
  have CM := Lib.hid (fun v hm hs => Url.may_any u pv hf M hM m v hm hs)
  have CW := Lib.hid (fun v => web_at u.sch z hz v)
  have hn : (M = false ∨ z = 0) → tells u = false := fun h => tells_not fun k => by
    rcases h with h | h
    · rw [hM, h] at k; cases k.1
    · exact k.2 (hz.trans h)
  have HN := Lib.hid (show (M = false ∨ z = 0) → x = ⟨#[]⟩ from fun _ => hx.symm)
  clear hn
  have HY := Lib.hid (show M = true → z ≠ 0 → tells u = true from fun h k => tells_of (hM.trans h) (fun e => k (hz.symm.trans e)))
  have n1 := is_nil
  clear hf hM hz hm hs hk
  have hu := HU.out
  have c0 := HU.out.cell 0
  rw [(cU_at u pv H8.out).1] at c0
  go_enter Tryz.func40, Tryz.ntmps40
  go_upto_region 1 with fail
  cases M
  · obtain rfl := HN.out (.inl (by first | rfl | trivial))
    clear HN HY
    go_wp2_with ((with_reducible refine wp_load27 (o := ⟨some 8, .load 27 (.tmp 2), _, _, _, _⟩) ?_ (.tmp 2) ?_ w.heap.size ?_ u pv H8.out hu ?_); (· rfl); (· rfl); (· rfl); simp only [Act.put, List.setIfInBounds_toArray, List.set_cons_zero, List.set_cons_succ])
    clear hu
    generalize (w.alloc (.cells (cU u pv) 27)) = W at HB0 HU HM HS c0 ⊢
    refine (CM.out _ HM.out HS.out).mono ?_
    rintro e u1 ⟨rfl, hB⟩
    have HB1 := Lib.hid (Ascii.below2 HB0.out hB)
    clear hB CM HB0 HU HM HS c0
    go_wp2
    go_ret2
    exact ⟨by rfl, HB1.out⟩
  · go_wp2_with ((with_reducible refine wp_load27 (o := ⟨some 8, .load 27 (.tmp 2), _, _, _, _⟩) ?_ (.tmp 2) ?_ w.heap.size ?_ u pv H8.out hu ?_); (· rfl); (· rfl); (· rfl); simp only [Act.put, List.setIfInBounds_toArray, List.set_cons_zero, List.set_cons_succ])
    clear hu
    generalize (w.alloc (.cells (cU u pv) 27)) = W at HB0 HU HM HS c0 ⊢
    refine (CM.out _ HM.out HS.out).mono ?_
    rintro e u1 ⟨rfl, hB⟩
    have HB1 := Lib.hid (Ascii.below2 HB0.out hB)
    have HM1 := Lib.hid (HM.out.later hB)
    have HS1 := Lib.hid (HS.out.later hB)
    have HU1 := Lib.hid (HU.out.later hB)
    clear hB CM HB0 HU HM HS c0
    have c0 := HU1.out.cell 0
    rw [(cU_at u pv H8.out).1] at c0
    go_wp2_with fail
    refine (CW.out _).mono ?_
    rintro e X ⟨rfl, rfl⟩
    clear CW c0
    by_cases h0 : z = 0
    · subst h0
      obtain rfl := HN.out (.inr (by first | rfl | trivial))
      clear HN HY
      go_wp2
      go_ret2
      exact ⟨by rfl, HB1.out⟩
    · have q0 : (z == 0) = false := beq_eq_false_iff_ne.2 h0
      have ht := HY.out (by first | rfl | trivial) h0
      go_wp2
      go_ret2
      obtain rfl := hx
      exact ⟨rfl, HB1.out⟩



set_option maxRecDepth 100000

/-- What is told at a level, as a value. -/
def atV (u : U) (pv : Value) (l : Int) : Value := if l = 1 then .iface 58 (.agg (cU u pv)) else if l = 2 then .iface 109 (.agg (cU u pv)) else .nilIface

set_option maxHeartbeats 16000000 in
theorem at_any (u : U) (pv : Value) (h8 : u.h.p.length = 8) (l : Int) (w : World) (hs : Strs w pv u.path) :
    Calls Tryz.prog 57 #[.agg (cU u pv), .int .i64 l] w fun e w' => e = .returned (atV u pv l) ∧ Below w.heap.size w w' := by
  have H8 := Lib.hid h8
  have HB0 := Lib.hid (show Below w.heap.size w (w.alloc (.cells (cU u pv) 27)) from (Below.refl _ w).alloc (Nat.le_refl _) _)
  have hu := UrlAt.new w u pv
  have b1 := built_of_src u pv h8 hs
  have b2 := built_of_cap u pv h8 hs
  clear h8 hs
  unfold atV
  by_cases h1 : l = 1
  · subst h1
    simp only [if_true]
    go_enter Tryz.func57, Tryz.ntmps57
    go_wp2_with (first | ((with_reducible refine wp_load27 (o := ⟨some 8, .load 27 (.tmp 2), _, _, _, _⟩) ?_ (.tmp 2) ?_ w.heap.size ?_ u pv H8.out hu ?_); (· rfl); (· rfl); (· rfl); simp only [Act.put, List.setIfInBounds_toArray, List.set_cons_zero, List.set_cons_succ]) | ((with_reducible refine wp_buildW (o := ⟨some 9, .build 58 #[(0, .tmp 8)], _, _, _, _⟩) 58 ?_ (.tmp 8) ?_ (cU u pv) ?_ b1 ?_); (· rfl); (· rfl); (· rfl); simp only [Act.put, List.setIfInBounds_toArray, List.set_cons_zero, List.set_cons_succ]))
    go_ret
    exact ⟨rfl, HB0.out⟩
  rw [if_neg h1]
  have q1 : (l == 1) = false := beq_eq_false_iff_ne.2 h1
  clear h1
  by_cases h2 : l = 2
  · subst h2
    simp only [if_true]
    go_enter Tryz.func57, Tryz.ntmps57
    go_wp2_with (first | ((with_reducible refine wp_load27 (o := ⟨some 13, .load 27 (.tmp 2), _, _, _, _⟩) ?_ (.tmp 2) ?_ w.heap.size ?_ u pv H8.out hu ?_); (· rfl); (· rfl); (· rfl); simp only [Act.put, List.setIfInBounds_toArray, List.set_cons_zero, List.set_cons_succ]) | ((with_reducible refine wp_buildW (o := ⟨some 14, .build 109 #[(0, .tmp 13)], _, _, _, _⟩) 109 ?_ (.tmp 13) ?_ (cU u pv) ?_ b2 ?_); (· rfl); (· rfl); (· rfl); simp only [Act.put, List.setIfInBounds_toArray, List.set_cons_zero, List.set_cons_succ]))
    go_ret
    exact ⟨rfl, HB0.out⟩
  rw [if_neg h2]
  have q2 : (l == 2) = false := beq_eq_false_iff_ne.2 h2
  clear h2
  go_enter Tryz.func57, Tryz.ntmps57
  go_wp2
  go_ret
  exact ⟨rfl, HB0.out⟩

theorem ask_at (u : U) (pv : Value) (hf : Fit u) (l : Int) (b : Bool) (hb : tellB u l = b) (x : ByteArray) (hx : tb (tellT u l) = x) (m : Int) (w : World) (hm : Six.At m w) (hs : Strs w pv u.path) (hk : u.h.k = 3 → Six.Known) :
    Calls Tryz.prog 40 #[.agg (cU u pv), atV u pv l] w fun e w' => e = .returned (.tuple #[.string x, .bool b]) ∧ Below w.heap.size w w' := by
  unfold atV
  by_cases h1 : l = 1
  · subst h1
    rw [if_pos rfl]
    exact ask_src u pv hf b (by rw [← hb]; unfold tellB; cases tells u <;> rfl) x (by rw [← hx]; unfold tellT orgT; cases tells u <;> rfl) m w hm hs hk
  rw [if_neg h1]
  by_cases h2 : l = 2
  · subst h2
    rw [if_pos rfl]
    exact ask_cap u pv hf b (by rw [← hb]; unfold tellB; cases tells u <;> rfl) x (by rw [← hx]; unfold tellT capT; cases tells u <;> rfl) m w hm hs hk
  rw [if_neg h2]
  have e : false = b := by
    rw [← hb]
    cases k : tellB u l
    · rfl
    · rcases ((tellB_iff u l).1 k).2 with e | e
      · exact absurd e h1
      · exact absurd e h2
  subst e
  exact ask_nil u pv hf _ rfl x (by rw [← hx, tell_not hb]; rfl) m w hm hs hk

set_option maxHeartbeats 16000000 in
theorem tell_any (u : U) (pv : Value) (hf : Fit u) (l : Int) (b : Bool) (hb : tellB u l = b) (x : ByteArray) (hx : tb (tellT u l) = x) (m : Int) (w : World) (hm : Six.At m w) (hs : Strs w pv u.path) (hk : u.h.k = 3 → Six.Known) :
    Calls Tryz.prog 31 #[.agg (cU u pv), .int .i64 l] w fun e w' => e = .returned (.tuple #[.string x, .bool b]) ∧ Below w.heap.size w w' := by
  have H8 := Lib.hid hf.h8
  have HB0 := Lib.hid (show Below w.heap.size w (w.alloc (.cells (cU u pv) 27)) from (Below.refl _ w).alloc (Nat.le_refl _) _)
  have HU := Lib.hid (UrlAt.new w u pv)
  have HM := Lib.hid (hm.later HB0.out)
  have HS := Lib.hid (hs.later HB0.out)
  have CA := Lib.hid (fun y hs => at_any u pv hf.h8 l y hs)
  have CK := Lib.hid (fun y hm hs => ask_at u pv hf l b hb x hx m y hm hs hk)
  clear hf hb hx hm hs hk
  generalize atV u pv l = v at CA CK
  go_enter Tryz.func31, Tryz.ntmps31
  go_wp2_with fail
  generalize (w.alloc (.cells (cU u pv) 27)) = W at HB0 HU HM HS ⊢
  have QU := Lib.hid (Origin.q_url HU.out H8.out)
  refine Ascii.wp_region_quiet_below (by kernel_rfl) (by kernel_rfl) ?_
  ((go_big_quiet_want; (with_reducible refine Host.quiet_load (o := ⟨some 6, .load 27 (.tmp 2), _, _, _, _⟩) 27 (.tmp 2) ?_ _ ?_ _ QU.out ?_); (· rfl); (· rfl)); go_big_quiet_on; simp only [Act.put, List.setIfInBounds_toArray, List.set_cons_succ, List.set_cons_zero])
  ((go_big_quiet_want; (with_reducible refine Host.quiet_load (o := ⟨some 7, .load 27 (.tmp 2), _, _, _, _⟩) 27 (.tmp 2) ?_ _ ?_ _ QU.out ?_); (· rfl); (· rfl)); go_big_quiet_on; simp only [Act.put, List.setIfInBounds_toArray, List.set_cons_succ, List.set_cons_zero])
  go_big_quiet_step ((intro _; rfl))
  go_big_quiet_step ((intro hu; go_at_call 57; exact (CA.out _ (HS.out.later hu)).mono fun e u' h => ⟨h.1, hu.trans (h.2.mono hu.size)⟩))
  go_big_quiet_step ((intro hu; go_at_call 40; exact (CK.out _ (HM.out.later hu) (HS.out.later hu)).mono fun e u' h => ⟨h.1, hu.trans (h.2.mono hu.size)⟩))
  repeat (go_big_quiet_step ((intro _; rfl)))
  refine wpQuiet_nil ?_
  intro y hy
  go_wp2
  go_ret2
  exact ⟨rfl, Ascii.below2 HB0.out hy⟩

set_option maxHeartbeats 16000000 in
theorem origin_any (u : U) (pv : Value) (hf : Fit u) (x : ByteArray) (hx : tb (orgT u) = x) (m : Int) (w : World) (hm : Six.At m w) (hs : Strs w pv u.path) (hk : u.h.k = 3 → Six.Known) :
    Calls Tryz.prog 19 #[.agg (cU u pv)] w fun e w' => e = .returned (.string x) ∧ Below w.heap.size w w' := by
  have H8 := Lib.hid hf.h8
  have HB0 := Lib.hid (show Below w.heap.size w (w.alloc (.cells (cU u pv) 27)) from (Below.refl _ w).alloc (Nat.le_refl _) _)
  have HU := Lib.hid (UrlAt.new w u pv)
  have HM := Lib.hid (hm.later HB0.out)
  have HS := Lib.hid (hs.later HB0.out)
  have b1 := built_of_src u pv hf.h8 hs
  obtain ⟨b, hb⟩ : ∃ b, tells u = b := ⟨_, rfl⟩
  have CK := Lib.hid (fun y hm hs => ask_src u pv hf b hb x hx m y hm hs hk)
  clear hf hb hx hm hs hk
  have hu := HU.out
  go_enter Tryz.func19, Tryz.ntmps19
  go_wp2_with (first | ((with_reducible refine wp_load27 (o := ⟨some 6, .load 27 (.tmp 1), _, _, _, _⟩) ?_ (.tmp 1) ?_ w.heap.size ?_ u pv H8.out hu ?_); (· rfl); (· rfl); (· rfl); simp only [Act.put, List.setIfInBounds_toArray, List.set_cons_zero, List.set_cons_succ]) | ((with_reducible refine wp_load27 (o := ⟨some 7, .load 27 (.tmp 1), _, _, _, _⟩) ?_ (.tmp 1) ?_ w.heap.size ?_ u pv H8.out hu ?_); (· rfl); (· rfl); (· rfl); simp only [Act.put, List.setIfInBounds_toArray, List.set_cons_zero, List.set_cons_succ]) | ((with_reducible refine wp_buildW (o := ⟨some 8, .build 58 #[(0, .tmp 7)], _, _, _, _⟩) 58 ?_ (.tmp 7) ?_ (cU u pv) ?_ b1 ?_); (· rfl); (· rfl); (· rfl); simp only [Act.put, List.setIfInBounds_toArray, List.set_cons_zero, List.set_cons_succ]))
  clear hu b1
  generalize (w.alloc (.cells (cU u pv) 27)) = W at HB0 HU HM HS ⊢
  refine (CK.out _ HM.out HS.out).mono ?_
  rintro e u1 ⟨rfl, hB⟩
  have HB1 := Lib.hid (Ascii.below2 HB0.out hB)
  clear hB CK HB0 HU HM HS
  go_wp2
  go_ret
  exact ⟨rfl, HB1.out⟩

set_option maxHeartbeats 16000000 in
theorem full_any (u : U) (pv : Value) (hf : Fit u) (x : ByteArray) (hx : tb (fullT u) = x) (m : Int) (w : World) (hm : Six.At m w) (hs : Strs w pv u.path) (hk : u.h.k = 3 → Six.Known) :
    Calls Tryz.prog 20 #[.agg (cU u pv)] w fun e w' => e = .returned (.string x) ∧ Below w.heap.size w w' := by
  have H8 := Lib.hid hf.h8
  have HB0 := Lib.hid (show Below w.heap.size w (w.alloc (.cells (cU u pv) 27)) from (Below.refl _ w).alloc (Nat.le_refl _) _)
  have HU := Lib.hid (UrlAt.new w u pv)
  have HM := Lib.hid (hm.later HB0.out)
  have HS := Lib.hid (hs.later HB0.out)
  have b1 := built_of_whl u pv hf.h8 hs
  obtain ⟨b, hb⟩ : ∃ b, tells u = b := ⟨_, rfl⟩
  have CK := Lib.hid (fun y hm hs => ask_whl u pv hf b hb x hx m y hm hs hk)
  clear hf hb hx hm hs hk
  have hu := HU.out
  go_enter Tryz.func20, Tryz.ntmps20
  go_wp2_with (first | ((with_reducible refine wp_load27 (o := ⟨some 6, .load 27 (.tmp 1), _, _, _, _⟩) ?_ (.tmp 1) ?_ w.heap.size ?_ u pv H8.out hu ?_); (· rfl); (· rfl); (· rfl); simp only [Act.put, List.setIfInBounds_toArray, List.set_cons_zero, List.set_cons_succ]) | ((with_reducible refine wp_load27 (o := ⟨some 7, .load 27 (.tmp 1), _, _, _, _⟩) ?_ (.tmp 1) ?_ w.heap.size ?_ u pv H8.out hu ?_); (· rfl); (· rfl); (· rfl); simp only [Act.put, List.setIfInBounds_toArray, List.set_cons_zero, List.set_cons_succ]) | ((with_reducible refine wp_buildW (o := ⟨some 8, .build 59 #[(0, .tmp 7)], _, _, _, _⟩) 59 ?_ (.tmp 7) ?_ (cU u pv) ?_ b1 ?_); (· rfl); (· rfl); (· rfl); simp only [Act.put, List.setIfInBounds_toArray, List.set_cons_zero, List.set_cons_succ]))
  clear hu b1
  generalize (w.alloc (.cells (cU u pv) 27)) = W at HB0 HU HM HS ⊢
  refine (CK.out _ HM.out HS.out).mono ?_
  rintro e u1 ⟨rfl, hB⟩
  have HB1 := Lib.hid (Ascii.below2 HB0.out hB)
  clear hB CK HB0 HU HM HS
  go_wp2
  go_ret
  exact ⟨rfl, HB1.out⟩

end Go.Proofs.YtbmnhmbicefemaaGreatDoor.Strip
