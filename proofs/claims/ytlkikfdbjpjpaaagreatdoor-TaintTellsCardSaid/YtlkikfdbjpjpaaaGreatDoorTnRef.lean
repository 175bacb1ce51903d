/-
  The document's functions of layer 19.
-/
import Derived.Test.YtlkikfdbjpjpaaaGreatDoorTnFacts
import Derived.Test.YtlkikfdbjpjpaaaGreatDoorRqFew
import Derived.Test.YtlkikfdbjpjpaaaGreatDoorORef
namespace Go.Proofs.YtlkikfdbjpjpaaaGreatDoor.Taint
set_option linter.unusedSimpArgs false
set_option linter.unusedVariables false
set_option maxRecDepth 100000


open Go.RowKit Go.Shelf

open Url Show Origin Req

open Path (Strs)

set_option maxRecDepth 100000

set_option maxHeartbeats 16000000 in
theorem refOwn_any (q : R) (pv hv : Value) (hq : QFit q) (b : Bool) (hb : ownB q = b) (w : World) (hs : Strs w pv q.url.path) :
    Calls Tryz.prog 34 #[.agg (cR q pv hv)] w fun e w' => e = .returned (.bool b) ∧ Below w.heap.size w w' := by
  have HB := Lib.hid (show Below w.heap.size w (w.alloc (.cells (cR q pv hv) 32)) from (Below.refl _ w).alloc (Nat.le_refl _) _)
  have HR := Lib.hid (RAt.new w q pv hv)
  have HS := Lib.hid (hs.later HB.out)
  have H8 := Lib.hid hq.r8
  obtain ⟨a, ha⟩ : ∃ o, ofU q.url = o := ⟨_, rfl⟩
  obtain ⟨a8, az, ay⟩ := of_size q.url hq.u
  rw [ha] at a8 az ay
  unfold ownB at hb
  rw [ha] at hb
  have CA := Lib.hid (fun y hs => refOf_any q.url pv hq.u hq.pt a ha y hs)
  have CS := Lib.hid (fun y => refSameO_any q.o a hq.r8.o a8 hq.os az b hb y)
  clear hs hq ha a8 az ay hb
  go_enter Tryz.func34, Tryz.ntmps34
  go_wp2_with fail
  generalize w.alloc (.cells (cR q pv hv) 32) = W at HB HR HS ⊢
  have QO := Lib.hid (fun u (hu : Below W.heap.size W u) => (HR.out.later hu).org H8.out)
  have QU := Lib.hid (fun u (hu : Below W.heap.size W u) => (HR.out.later hu).url H8.out)
  refine Ascii.wp_region_quiet_below (by kernel_rfl) (by kernel_rfl) ?_
  go_big_quiet_step ((intro _; rfl))
  ((go_big_quiet_want; (with_reducible refine Host.quiet_load (o := ⟨some 5, .load 30 (.tmp 4), _, _, _, _⟩) 30 (.tmp 4) ?_ _ ?_ _ QO.out ?_); (· rfl); (· rfl)); go_big_quiet_on; simp only [Act.put, List.setIfInBounds_toArray, List.set_cons_succ, List.set_cons_zero])
  go_big_quiet_step ((intro _; rfl))
  ((go_big_quiet_want; (with_reducible refine Host.quiet_load (o := ⟨some 7, .load 27 (.tmp 6), _, _, _, _⟩) 27 (.tmp 6) ?_ _ ?_ _ QU.out ?_); (· rfl); (· rfl)); go_big_quiet_on; simp only [Act.put, List.setIfInBounds_toArray, List.set_cons_succ, List.set_cons_zero])
  go_big_quiet_step ((intro hu; go_at_call 33; exact (CA.out _ (HS.out.later hu)).mono fun e u' h => ⟨h.1, hu.trans (h.2.mono hu.size)⟩))
  go_big_quiet_step ((intro hu; go_at_call 32; exact (CS.out _).mono fun e u' h => ⟨h.1, hu.trans (h.2.mono hu.size)⟩))
  repeat (go_big_quiet_step ((intro _; rfl)))
  refine wpQuiet_nil ?_
  intro y hy
  go_wp2
  go_ret
  exact ⟨rfl, Ascii.below2 HB.out hy⟩

set_option maxHeartbeats 16000000 in
theorem refTaint_any (was : Bool) (o : O) (u v : U) (pv qv : Value) (h8 : o.h.p.length = 8) (hz : o.h.s.size ≤ 1000) (hf : Fit u) (hg : Fit v) (hp : ∀ t ∈ u.path, t.length ≤ 30000) (hq : ∀ t ∈ v.path, t.length ≤ 30000) (b : Bool) (hb : taintB was o u v = b) (w : World) (hs : Strs w pv u.path) (ht : Strs w qv v.path) :
    Calls Tryz.prog 14 #[.bool was, .agg (cO o), .agg (cU u pv), .agg (cU v qv)] w fun e w' => e = .returned (.bool b) ∧ Below w.heap.size w w' := by
  have hs1 : (w.alloc (.cells (cO o) 30)).heap.size = w.heap.size + 1 := Array.size_push _
  have hs2 : ((w.alloc (.cells (cO o) 30)).alloc (.cells (cU u pv) 27)).heap.size = w.heap.size + 2 := by rw [show ((w.alloc (.cells (cO o) 30)).alloc (.cells (cU u pv) 27)).heap.size = (w.alloc (.cells (cO o) 30)).heap.size + 1 from Array.size_push _, hs1]
  have hb1 := (Below.refl w.heap.size w).alloc (Nat.le_refl _) (.cells (cO o) 30)
  have hb2 := hb1.alloc (by omega) (.cells (cU u pv) 27)
  have hb3 := hb2.alloc (by omega) (.cells (cU v qv) 27)
  have HB := Lib.hid hb3
  have HO := Lib.hid (((OAt.new w o).past (.cells (cU u pv) 27)).past (.cells (cU v qv) 27))
  have HU := Lib.hid ((show UrlAt ((w.alloc (.cells (cO o) 30)).alloc (.cells (cU u pv) 27)) (w.heap.size + 1) u pv from by rw [← hs1]; exact UrlAt.new _ u pv).past (.cells (cU v qv) 27))
  have HV := Lib.hid (show UrlAt (((w.alloc (.cells (cO o) 30)).alloc (.cells (cU u pv) 27)).alloc (.cells (cU v qv) 27)) (w.heap.size + 2) v qv from by rw [← hs2]; exact UrlAt.new _ v qv)
  have HS := Lib.hid (hs.later hb3)
  have HT := Lib.hid (ht.later hb3)
  obtain ⟨a, ha⟩ : ∃ o, ofU u = o := ⟨_, rfl⟩
  obtain ⟨a8, az, ay⟩ := of_size u hf
  rw [ha] at a8 az ay
  obtain ⟨y, hy⟩ : ∃ b, bothU u v = b := ⟨_, rfl⟩
  obtain ⟨z, hzz⟩ : ∃ b, sameO o a = b := ⟨_, rfl⟩
  have hby : b = (was || (!y && !z)) := by rw [← hb, ← hy, ← hzz, ← ha]; rfl
  have CB := Lib.hid (fun x hs ht => refBoth_any u v pv qv hf hg hp hq y hy x hs ht)
  have CA := Lib.hid (fun x hs => refOf_any u pv hf hp a ha x hs)
  have CS := Lib.hid (fun x => refSameO_any o a h8 a8 hz az z hzz x)
  have H8 := Lib.hid hf.h8
  have K8 := Lib.hid hg.h8
  have O8 := Lib.hid h8
  clear hs1 hs2 hb1 hb2 hb3 hf hg hp hq hs ht ha a8 az ay hb hy hzz h8 hz
  subst hby
  have hu := HU.out
  have hv := HV.out
  go_enter Tryz.func14, Tryz.ntmps14
  go_wp2_with (first | ((with_reducible refine wp_load27 (o := ⟨some 11, .load 27 (.tmp 6), _, _, _, _⟩) ?_ (.tmp 6) ?_ (w.heap.size + 1) ?_ u pv H8.out hu ?_); (· rfl); (· rfl); (· rfl); simp only [Act.put, List.setIfInBounds_toArray, List.set_cons_zero, List.set_cons_succ]) | ((with_reducible refine wp_load27 (o := ⟨some 12, .load 27 (.tmp 7), _, _, _, _⟩) ?_ (.tmp 7) ?_ (w.heap.size + 2) ?_ v qv K8.out hv ?_); (· rfl); (· rfl); (· rfl); simp only [Act.put, List.setIfInBounds_toArray, List.set_cons_zero, List.set_cons_succ]))
  clear hu hv
  generalize (((w.alloc (.cells (cO o) 30)).alloc (.cells (cU u pv) 27)).alloc (.cells (cU v qv) 27)) = W at HB HO HU HV HS HT ⊢
  refine (CB.out _ HS.out HT.out).mono ?_
  rintro e u1 ⟨rfl, hB⟩
  have HB1 := Lib.hid (Ascii.below2 HB.out hB)
  have HO1 := Lib.hid (HO.out.later hB)
  have HU1 := Lib.hid (HU.out.later hB)
  have HS1 := Lib.hid (HS.out.later hB)
  clear hB CB HB HO HU HV HS HT
  go_wp2_with fail
  have QO := Lib.hid (fun x (hu : Below u1.heap.size u1 x) => (HO1.out.later hu).load O8.out)
  have QU := Lib.hid (Url.q_url HU1.out H8.out)
  refine Ascii.wp_region_quiet_below (by kernel_rfl) (by kernel_rfl) ?_
  ((go_big_quiet_want; (with_reducible refine Host.quiet_load (o := ⟨some 14, .load 30 (.tmp 5), _, _, _, _⟩) 30 (.tmp 5) ?_ _ ?_ _ QO.out ?_); (· rfl); (· rfl)); go_big_quiet_on; simp only [Act.put, List.setIfInBounds_toArray, List.set_cons_succ, List.set_cons_zero])
  ((go_big_quiet_want; (with_reducible refine Host.quiet_load (o := ⟨some 15, .load 27 (.tmp 6), _, _, _, _⟩) 27 (.tmp 6) ?_ _ ?_ _ QU.out ?_); (· rfl); (· rfl)); go_big_quiet_on; simp only [Act.put, List.setIfInBounds_toArray, List.set_cons_succ, List.set_cons_zero])
  go_big_quiet_step ((intro hu; go_at_call 33; exact (CA.out _ (HS1.out.later hu)).mono fun e u' h => ⟨h.1, hu.trans (h.2.mono hu.size)⟩))
  go_big_quiet_step ((intro hu; go_at_call 32; exact (CS.out _).mono fun e u' h => ⟨h.1, hu.trans (h.2.mono hu.size)⟩))
  repeat (go_big_quiet_step ((intro _; rfl)))
  refine wpQuiet_nil ?_
  intro x hx
  cases was <;> cases y <;> cases z
  all_goals
    go_wp2
    go_ret
    exact ⟨rfl, Ascii.below2 HB1.out hx⟩

set_option maxHeartbeats 8000000 in
theorem refCreds_any (u : U) (pv : Value) (h8 : u.h.p.length = 8) (b : Bool) (hb : credsB u = b) (w : World) :
    Calls Tryz.prog 16 #[.agg (cU u pv)] w fun e w' => e = .returned (.bool b) ∧ Below w.heap.size w w' := by
  have HB := Lib.hid (show Below w.heap.size w (w.alloc (.cells (cU u pv) 27)) from (Below.refl _ w).alloc (Nat.le_refl _) _)
  have hu := UrlAt.new w u pv
  obtain ⟨A, hA⟩ : ∃ x, tb u.usr = x := ⟨_, rfl⟩
  obtain ⟨P, hP⟩ : ∃ x, tb u.pas = x := ⟨_, rfl⟩
  obtain ⟨y, hy⟩ : ∃ b, (u.usr == []) = b := ⟨_, rfl⟩
  obtain ⟨z, hz⟩ : ∃ b, (u.pas == []) = b := ⟨_, rfl⟩
  have e1 : (A.toList == []) = y := by rw [← hy, Path.tl, list_tb hA]
  have e2 : (P.toList == []) = z := by rw [← hz, Path.tl, list_tb hP]
  have hby : b = (!y || !z) := by rw [← hb, ← hy, ← hz]; rfl
  have c1 := hu.cell 1
  rw [(cU_at u pv h8).2.1, hA] at c1
  have c2 := hu.cell 2
  rw [(cU_at u pv h8).2.2.1, hP] at c2
  clear hu hA hP hy hz hb
  subst hby
  go_enter Tryz.func16, Tryz.ntmps16
  cases y <;> cases z
  all_goals
    go_wp2
    go_ret
    exact ⟨rfl, HB.out⟩

set_option maxHeartbeats 16000000 in
theorem refCrossed_any (q : R) (pv hv : Value) (hq : QFit q) (b : Bool) (hb : crossB q = b) (w : World) (hs : Strs w pv q.url.path) :
    Calls Tryz.prog 15 #[.agg (cR q pv hv)] w fun e w' => e = .returned (.bool b) ∧ Below w.heap.size w w' := by
  have HB := Lib.hid (show Below w.heap.size w (w.alloc (.cells (cR q pv hv) 32)) from (Below.refl _ w).alloc (Nat.le_refl _) _)
  have HR := Lib.hid (RAt.new w q pv hv)
  have HS := Lib.hid (hs.later HB.out)
  have H8 := Lib.hid hq.r8
  obtain ⟨z, hz⟩ : ∃ b, ownB q = b := ⟨_, rfl⟩
  obtain ⟨c, hc⟩ : ∃ b, q.crs = b := ⟨_, rfl⟩
  obtain ⟨d, hd⟩ : ∃ b, (q.mode == 1) = b := ⟨_, rfl⟩
  obtain ⟨n, hn⟩ : ∃ n, q.mode = n := ⟨_, rfl⟩
  have hby : b = (c || (d && !z)) := by rw [← hb, ← hz, ← hc, ← hd]; rfl
  rw [hn] at hd
  have CW := Lib.hid (fun y hs => refOwn_any q pv hv hq z hz y hs)
  have HC := Lib.hid hc
  have HN := Lib.hid hn
  clear hs hq hb hz hc hn
  subst hby
  have hr := HR.out
  go_enter Tryz.func15, Tryz.ntmps15
  go_wp2_with ((with_reducible refine wp_load32 (o := ⟨some 4, .load 32 (.tmp 1), _, _, _, _⟩) ?_ (.tmp 1) ?_ w.heap.size ?_ q pv hv H8.out hr ?_); (· rfl); (· rfl); (· rfl); simp only [Act.put, List.setIfInBounds_toArray, List.set_cons_zero, List.set_cons_succ])
  clear hr
  generalize w.alloc (.cells (cR q pv hv) 32) = W at HB HR HS ⊢
  refine (CW.out _ HS.out).mono ?_
  rintro e u1 ⟨rfl, hB⟩
  have HB1 := Lib.hid (Ascii.below2 HB.out hB)
  have hr := HR.out.later hB
  have c43 := hr.cell 43
  rw [(cR_at q pv hv H8.out).2.2.2.2.2.2.2.2.1, HC.out] at c43
  have c38 := hr.cell 38
  rw [(cR_at q pv hv H8.out).2.2.2.1, HN.out] at c38
  clear hB CW HB HR HS hr
  cases c <;> cases d <;> cases z
  all_goals
    go_wp2
    go_ret
    exact ⟨rfl, HB1.out⟩

set_option maxHeartbeats 16000000 in
theorem refQuiet_any (q : R) (pv hv : Value) (hq : QFit q) (b : Bool) (hb : quietB q = b) (w : World) (hs : Strs w pv q.url.path) :
    Calls Tryz.prog 17 #[.agg (cR q pv hv)] w fun e w' => e = .returned (.bool b) ∧ Below w.heap.size w w' := by
  have HB := Lib.hid (show Below w.heap.size w (w.alloc (.cells (cR q pv hv) 32)) from (Below.refl _ w).alloc (Nat.le_refl _) _)
  have HR := Lib.hid (RAt.new w q pv hv)
  have HS := Lib.hid (hs.later HB.out)
  have H8 := Lib.hid hq.r8
  obtain ⟨z, hz⟩ : ∃ b, crossB q = b := ⟨_, rfl⟩
  obtain ⟨d, hd⟩ : ∃ b, (q.mode == 1) = b := ⟨_, rfl⟩
  obtain ⟨n, hn⟩ : ∃ n, q.mode = n := ⟨_, rfl⟩
  obtain ⟨M, hM⟩ : ∃ x, tb q.mth = x := ⟨_, rfl⟩
  obtain ⟨g, hg⟩ : ∃ b, (q.mth == getT) = b := ⟨_, rfl⟩
  obtain ⟨k, hk⟩ : ∃ b, (q.mth == headT) = b := ⟨_, rfl⟩
  have e1 : (M.toList == [71, 69, 84]) = g := by rw [← hg, Path.tl, list_tb hM]; rfl
  have e2 : (M.toList == [72, 69, 65, 68]) = k := by rw [← hk, Path.tl, list_tb hM]; rfl
  have hby : b = ((g || k) && (!d || !z)) := by rw [← hb, ← hz, ← hd, ← hg, ← hk]; rfl
  rw [hn] at hd
  have e3 : (n != 1) = !d := by rw [← hd]; rfl
  have CW := Lib.hid (fun y hs => refCrossed_any q pv hv hq z hz y hs)
  have HM := Lib.hid hM
  have HN := Lib.hid hn
  clear hs hq hb hz hn hM hg hk
  subst hby
  have hr := HR.out
  go_enter Tryz.func17, Tryz.ntmps17
  go_wp2_with ((with_reducible refine wp_load32 (o := ⟨some 4, .load 32 (.tmp 1), _, _, _, _⟩) ?_ (.tmp 1) ?_ w.heap.size ?_ q pv hv H8.out hr ?_); (· rfl); (· rfl); (· rfl); simp only [Act.put, List.setIfInBounds_toArray, List.set_cons_zero, List.set_cons_succ])
  clear hr
  generalize w.alloc (.cells (cR q pv hv) 32) = W at HB HR HS ⊢
  refine (CW.out _ HS.out).mono ?_
  rintro e u1 ⟨rfl, hB⟩
  have HB1 := Lib.hid (Ascii.below2 HB.out hB)
  have hr := HR.out.later hB
  have c21 := hr.cell 21
  rw [(cR_at q pv hv H8.out).1, HM.out] at c21
  have c38 := hr.cell 38
  rw [(cR_at q pv hv H8.out).2.2.2.1, HN.out] at c38
  clear hB CW HB HR HS hr
  cases g <;> cases k <;> cases d <;> cases z
  all_goals
    go_wp2
    go_ret
    exact ⟨rfl, HB1.out⟩

set_option maxHeartbeats 16000000 in
theorem refHidden_any (q : R) (pv hv : Value) (hq : QFit q) (b : Bool) (hb : hideB q = b) (w : World) (hs : Strs w pv q.url.path) :
    Calls Tryz.prog 29 #[.agg (cR q pv hv)] w fun e w' => e = .returned (.bool b) ∧ Below w.heap.size w w' := by
  have HB := Lib.hid (show Below w.heap.size w (w.alloc (.cells (cR q pv hv) 32)) from (Below.refl _ w).alloc (Nat.le_refl _) _)
  have HR := Lib.hid (RAt.new w q pv hv)
  have HS := Lib.hid (hs.later HB.out)
  have H8 := Lib.hid hq.r8
  obtain ⟨z, hz⟩ : ∃ b, ownB q = b := ⟨_, rfl⟩
  obtain ⟨p, hp⟩ : ∃ n, q.pol = n := ⟨_, rfl⟩
  obtain ⟨c, hc⟩ : ∃ b, q.o.opaq = b := ⟨_, rfl⟩
  obtain ⟨S, hS⟩ : ∃ x, tb q.o.sch = x := ⟨_, rfl⟩
  obtain ⟨V, hV⟩ : ∃ x, tb q.url.sch = x := ⟨_, rfl⟩
  obtain ⟨g, hg⟩ : ∃ b, (q.o.sch == https) = b := ⟨_, rfl⟩
  obtain ⟨k, hk⟩ : ∃ b, (q.url.sch == https) = b := ⟨_, rfl⟩
  have e1 : (S.toList == [104, 116, 116, 112, 115]) = g := by rw [← hg, Path.tl, list_tb hS]; rfl
  have e2 : (V.toList == [104, 116, 116, 112, 115]) = k := by rw [← hk, Path.tl, list_tb hV]; rfl
  have hby : b = (if p = 1 then true else if p = 0 ∨ p = 2 ∨ p = 5 ∨ p = 7 then (!c && (g && !k)) else if p = 3 then !z else false) := by rw [← hb, ← hz, ← hp, ← hc, ← hg, ← hk]; rfl
  have CW := Lib.hid (fun y hs => refOwn_any q pv hv hq z hz y hs)
  have HP := Lib.hid hp
  have HC := Lib.hid hc
  have HSS := Lib.hid hS
  have HV := Lib.hid hV
  clear hs hq hb hz hp hc hS hV hg hk
  have hr := HR.out
  go_enter Tryz.func29, Tryz.ntmps29
  go_wp2_with ((with_reducible refine wp_load32 (o := ⟨some 4, .load 32 (.tmp 1), _, _, _, _⟩) ?_ (.tmp 1) ?_ w.heap.size ?_ q pv hv H8.out hr ?_); (· rfl); (· rfl); (· rfl); simp only [Act.put, List.setIfInBounds_toArray, List.set_cons_zero, List.set_cons_succ])
  clear hr
  generalize w.alloc (.cells (cR q pv hv) 32) = W at HB HR HS ⊢
  refine (CW.out _ HS.out).mono ?_
  rintro e u1 ⟨rfl, hB⟩
  have HB1 := Lib.hid (Ascii.below2 HB.out hB)
  have hr := HR.out.later hB
  have c40 := hr.cell 40
  rw [(cR_at q pv hv H8.out).2.2.2.2.2.1, HP.out] at c40
  have c24 := hr.cell 24
  rw [(cR_o q pv hv H8.out).1, HC.out] at c24
  have c25 := hr.cell 25
  rw [(cR_o q pv hv H8.out).2.1, HSS.out] at c25
  have c0 := hr.cell 0
  rw [cR_sch q pv hv H8.out, HV.out] at c0
  clear hB CW HB HR HS hr
  by_cases h1 : p = 1
  · subst h1
    obtain rfl : b = true := hby
    go_wp2
    go_ret
    exact ⟨rfl, HB1.out⟩
  by_cases h0 : p = 0
  · subst h0
    obtain rfl : b = (!c && (g && !k)) := hby.trans rfl
    cases c <;> cases g <;> cases k
    all_goals
      go_wp2
      go_ret
      exact ⟨rfl, HB1.out⟩
  by_cases h2 : p = 2
  · subst h2
    obtain rfl : b = (!c && (g && !k)) := hby.trans rfl
    cases c <;> cases g <;> cases k
    all_goals
      go_wp2
      go_ret
      exact ⟨rfl, HB1.out⟩
  by_cases h5 : p = 5
  · subst h5
    obtain rfl : b = (!c && (g && !k)) := hby.trans rfl
    cases c <;> cases g <;> cases k
    all_goals
      go_wp2
      go_ret
      exact ⟨rfl, HB1.out⟩
  by_cases h7 : p = 7
  · subst h7
    obtain rfl : b = (!c && (g && !k)) := hby.trans rfl
    cases c <;> cases g <;> cases k
    all_goals
      go_wp2
      go_ret
      exact ⟨rfl, HB1.out⟩
  by_cases h3 : p = 3
  · subst h3
    obtain rfl : b = !z := hby.trans rfl
    clear hby h1 h0 h2 h5 h7
    go_wp2
    go_ret
    exact ⟨rfl, HB1.out⟩
  obtain rfl : b = false := by rw [hby, if_neg h1, if_neg (by omega), if_neg h3]
  have r1 : (p == 1) = false := beq_eq_false_iff_ne.2 h1
  have r0 : (p == 0) = false := beq_eq_false_iff_ne.2 h0
  have r2 : (p == 2) = false := beq_eq_false_iff_ne.2 h2
  have r5 : (p == 5) = false := beq_eq_false_iff_ne.2 h5
  have r7 : (p == 7) = false := beq_eq_false_iff_ne.2 h7
  have r3 : (p == 3) = false := beq_eq_false_iff_ne.2 h3
  clear hby h1 h0 h2 h5 h7 h3
  go_wp2
  go_ret
  exact ⟨rfl, HB1.out⟩

set_option maxHeartbeats 16000000 in
theorem refSends_any (q : R) (pv hv : Value) (hq : QFit q) (b : Bool) (hb : sendsB q = b) (X : ByteArray) (hX : tb (sendsT q) = X) (w : World) (hs : Strs w pv q.url.path) :
    Calls Tryz.prog 13 #[.agg (cR q pv hv)] w fun e w' => e = .returned (.tuple #[.string X, .bool b]) ∧ Below w.heap.size w w' := by
  have HB := Lib.hid (show Below w.heap.size w (w.alloc (.cells (cR q pv hv) 32)) from (Below.refl _ w).alloc (Nat.le_refl _) _)
  have HR := Lib.hid (RAt.new w q pv hv)
  have HS := Lib.hid (hs.later HB.out)
  have H8 := Lib.hid hq.r8
  obtain ⟨z, hz⟩ : ∃ b, quietB q = b := ⟨_, rfl⟩
  obtain ⟨d, hd⟩ : ∃ b, (q.mode == 1) = b := ⟨_, rfl⟩
  obtain ⟨n, hn⟩ : ∃ n, q.mode = n := ⟨_, rfl⟩
  obtain ⟨t, ht⟩ : ∃ b, q.tnt = b := ⟨_, rfl⟩
  obtain ⟨k, hk⟩ : ∃ b, hideB q = b := ⟨_, rfl⟩
  obtain ⟨S, hS⟩ : ∃ x, tb (showO q.o) = x := ⟨_, rfl⟩
  have hnb : nullB q = (t || (!d && k)) := by rw [← ht, ← hd, ← hk]; rfl
  have F1 := Lib.hid (show z = true → b = false ∧ X = ⟨#[]⟩ from fun e => by
    obtain ⟨x1, x2⟩ := sends_not (hz.trans e)
    exact ⟨hb.symm.trans x1, by rw [← hX, x2]; rfl⟩)
  have F2 := Lib.hid (show z = false → (t || (!d && k)) = true → b = true ∧ X = ⟨#[110, 117, 108, 108]⟩ from fun e e' => by
    obtain ⟨x1, x2⟩ := sends_null (hz.trans e) (hnb.trans e')
    exact ⟨hb.symm.trans x1, by rw [← hX, x2]; rfl⟩)
  have F3 := Lib.hid (show z = false → (t || (!d && k)) = false → b = true ∧ X = S from fun e e' => by
    obtain ⟨x1, x2⟩ := sends_own (hz.trans e) (hnb.trans e')
    exact ⟨hb.symm.trans x1, by rw [← hX, x2, hS]⟩)
  rw [hn] at hd
  have e3 : (n != 1) = !d := by rw [← hd]; rfl
  have CQ := Lib.hid (fun y hs => refQuiet_any q pv hv hq z hz y hs)
  have CH := Lib.hid (fun y hs => refHidden_any q pv hv hq k hk y hs)
  have CO := Lib.hid (fun y => refShowO_any q.o hq.r8.o hq.os hq.ol hq.op S hS y)
  have HN := Lib.hid hn
  have HT := Lib.hid ht
  clear hs hq hb hX hz hn ht hk hS hnb
  have hr := HR.out
  go_enter Tryz.func13, Tryz.ntmps13
  go_wp2_with ((with_reducible refine wp_load32 (o := ⟨some 6, .load 32 (.tmp 1), _, _, _, _⟩) ?_ (.tmp 1) ?_ w.heap.size ?_ q pv hv H8.out hr ?_); (· rfl); (· rfl); (· rfl); simp only [Act.put, List.setIfInBounds_toArray, List.set_cons_zero, List.set_cons_succ])
  clear hr
  generalize w.alloc (.cells (cR q pv hv) 32) = W at HB HR HS ⊢
  refine (CQ.out _ HS.out).mono ?_
  rintro e u1 ⟨rfl, hB⟩
  have HB1 := Lib.hid (Ascii.below2 HB.out hB)
  have HR1 := Lib.hid (HR.out.later hB)
  have HS1 := Lib.hid (HS.out.later hB)
  clear hB CQ HB HR HS
  have hr := HR1.out
  go_wp2_with ((with_reducible refine wp_load32 (o := ⟨some 8, .load 32 (.tmp 1), _, _, _, _⟩) ?_ (.tmp 1) ?_ w.heap.size ?_ q pv hv H8.out hr ?_); (· rfl); (· rfl); (· rfl); simp only [Act.put, List.setIfInBounds_toArray, List.set_cons_zero, List.set_cons_succ])
  clear hr
  refine (CH.out _ HS1.out).mono ?_
  rintro e u2 ⟨rfl, hB⟩
  have HB2 := Lib.hid (Ascii.below2 HB1.out hB)
  have HR2 := Lib.hid (HR1.out.later hB)
  clear hB CH HB1 HR1 HS1
  have c42 := HR2.out.cell 42
  rw [(cR_at q pv hv H8.out).2.2.2.2.2.2.2.1, HT.out] at c42
  have c38 := HR2.out.cell 38
  rw [(cR_at q pv hv H8.out).2.2.2.1, HN.out] at c38
  cases z
  · cases hnn : (t || (!d && k))
    · obtain ⟨rfl, rfl⟩ := F3.out (by first | rfl | trivial) hnn
      clear F1 F2 F3
      have hr := HR2.out
      cases t <;> cases d <;> cases k <;> first
        | (exact absurd hnn (by decide))
        | (clear hnn
           go_wp2_with ((with_reducible refine wp_load29r (o := ⟨some 22, .load 30 (.tmp 21), _, _, _, _⟩) ?_ (.tmp 21) ?_ w.heap.size ?_ q pv hv H8.out hr ?_); (· rfl); (· rfl); (· rfl); simp only [Act.put, List.setIfInBounds_toArray, List.set_cons_zero, List.set_cons_succ])
           refine (CO.out _).mono ?_
           rintro e u3 ⟨rfl, hB⟩
           have hfin := Ascii.below2 HB2.out hB
           go_wp2
           go_ret2
           exact ⟨rfl, hfin⟩)
    · obtain ⟨rfl, rfl⟩ := F2.out (by first | rfl | trivial) hnn
      clear F1 F2 F3 CO
      cases t <;> cases d <;> cases k <;> first
        | (exact absurd hnn (by decide))
        | (clear hnn
           go_wp2
           go_ret2
           exact ⟨rfl, HB2.out⟩)
  · obtain ⟨rfl, rfl⟩ := F1.out (by first | rfl | trivial)
    clear F1 F2 F3 CO
    go_wp2
    go_ret2
    exact ⟨rfl, HB2.out⟩

end Go.Proofs.YtlkikfdbjpjpaaaGreatDoor.Taint
