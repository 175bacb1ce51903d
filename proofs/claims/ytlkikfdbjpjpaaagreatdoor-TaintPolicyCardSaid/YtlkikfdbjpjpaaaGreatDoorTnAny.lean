/-
  Package taint, as it landed.
-/
import Derived.Deep.RegionHeld
import Derived.MapKept
import Derived.Test.YtlkikfdbjpjpaaaGreatDoorTnMap
namespace Go.Proofs.YtlkikfdbjpjpaaaGreatDoor.Taint
set_option linter.unusedSimpArgs false
set_option linter.unusedVariables false
set_option maxRecDepth 100000


open Go.RowKit Go.Shelf

open Url Show Origin Req

open Path (Strs)

set_option maxRecDepth 100000

set_option maxHeartbeats 16000000 in
theorem foreign_any (o : O) (u : U) (pv : Value) (h8 : o.h.p.length = 8) (hz : o.h.s.size ≤ 1000) (hl : o.sch.length ≤ 1000000) (hf : Fit u) (b : Bool) (hb : (!sameO o (ofU u)) = b) (m : Int) (w : World) (hm : Six.At m w) (hs : Strs w pv u.path) :
    Calls Tryz.prog 35 #[.agg (cO o), .agg (cU u pv)] w fun e w' => e = .returned (.bool b) ∧ Below w.heap.size w w' := by
  have hs1 : (w.alloc (.cells (cO o) 30)).heap.size = w.heap.size + 1 := Array.size_push _
  have hb1 := (Below.refl w.heap.size w).alloc (Nat.le_refl _) (.cells (cO o) 30)
  have hb2 := hb1.alloc (by omega) (.cells (cU u pv) 27)
  have HB := Lib.hid hb2
  have HO := Lib.hid ((OAt.new w o).past (.cells (cU u pv) 27))
  have HU := Lib.hid (show UrlAt ((w.alloc (.cells (cO o) 30)).alloc (.cells (cU u pv) 27)) (w.heap.size + 1) u pv from by rw [← hs1]; exact UrlAt.new _ u pv)
  have HS := Lib.hid (hs.later hb2)
  have HM := Lib.hid (hm.later hb2)
  obtain ⟨a, ha⟩ : ∃ o, ofU u = o := ⟨_, rfl⟩
  obtain ⟨a8, az, ay⟩ := of_size u hf
  rw [ha] at a8 az ay hb
  obtain ⟨z, hzz⟩ : ∃ b, sameO o a = b := ⟨_, rfl⟩
  rw [hzz] at hb
  have CA := Lib.hid (fun x y hm hs => of_any u pv hf a ha x y hm hs)
  have CS := Lib.hid (fun x y hm => osame_any o a h8 a8 hz hl z hzz x y hm)
  have O8 := Lib.hid h8
  have K8 := Lib.hid hf.h8
  clear hs1 hb1 hb2 hs hm ha a8 az ay hzz h8 hz hl hf
  subst hb
  go_enter Tryz.func35, Tryz.ntmps35
  go_wp2_with fail
  generalize (w.alloc (.cells (cO o) 30)).alloc (.cells (cU u pv) 27) = W at HB HO HU HS HM ⊢
  have QO := Lib.hid (fun x (hu : Below W.heap.size W x) => (HO.out.later hu).load O8.out)
  have QU := Lib.hid (Url.q_url HU.out K8.out)
  refine Ascii.wp_region_quiet_below (by kernel_rfl) (by kernel_rfl) ?_
  ((go_big_quiet_want; (with_reducible refine Host.quiet_load (o := ⟨some 5, .load 30 (.tmp 2), _, _, _, _⟩) 30 (.tmp 2) ?_ _ ?_ _ QO.out ?_); (· rfl); (· rfl)); go_big_quiet_on; simp only [Act.put, List.setIfInBounds_toArray, List.set_cons_succ, List.set_cons_zero])
  ((go_big_quiet_want; (with_reducible refine Host.quiet_load (o := ⟨some 6, .load 27 (.tmp 3), _, _, _, _⟩) 27 (.tmp 3) ?_ _ ?_ _ QU.out ?_); (· rfl); (· rfl)); go_big_quiet_on; simp only [Act.put, List.setIfInBounds_toArray, List.set_cons_succ, List.set_cons_zero])
  go_big_quiet_step ((intro hu; go_at_call 23; exact (CA.out _ _ (HM.out.later hu) (HS.out.later hu)).mono fun e u' h => ⟨h.1, hu.trans (h.2.mono hu.size)⟩))
  go_big_quiet_step ((intro hu; go_at_call 22; exact (CS.out _ _ (HM.out.later hu)).mono fun e u' h => ⟨h.1, hu.trans (h.2.mono hu.size)⟩))
  repeat (go_big_quiet_step ((intro _; rfl)))
  refine wpQuiet_nil ?_
  intro y hy
  go_wp2
  go_ret
  exact ⟨rfl, Ascii.below2 HB.out hy⟩

set_option maxHeartbeats 16000000 in
theorem cors_any (q : R) (pv hv : Value) (h8 : R8 q) (b : Bool) (hb : (q.mode == 1) = b) (w : World)  :
    Calls Tryz.prog 36 #[.agg (cR q pv hv)] w fun e w' => e = .returned (.bool b) ∧ Below w.heap.size w w' := by
  have HB := Lib.hid (show Below w.heap.size w (w.alloc (.cells (cR q pv hv) 32)) from (Below.refl _ w).alloc (Nat.le_refl _) _)
  have HR := Lib.hid (RAt.new w q pv hv)
  obtain ⟨n, hn⟩ : ∃ n, q.mode = n := ⟨_, rfl⟩
  rw [hn] at hb
  have c38 := HR.out.cell 38
  rw [(cR_at q pv hv h8).2.2.2.1, hn] at c38
  clear hn h8 HR
  go_enter Tryz.func36, Tryz.ntmps36
  go_wp2
  go_ret
  exact ⟨rfl, HB.out⟩

set_option maxHeartbeats 16000000 in
theorem crossed_any (q : R) (pv hv : Value) (hq : QFit q) (hh : hv.oneCell' = true) (b : Bool) (hb : crossB q = b) (m : Int) (w : World) (hm : Six.At m w) (hs : Strs w pv q.url.path) :
    Calls Tryz.prog 19 #[.agg (cR q pv hv)] w fun e w' => e = .returned (.bool b) ∧ Below w.heap.size w w' := by
  have HB := Lib.hid (show Below w.heap.size w (w.alloc (.cells (cR q pv hv) 32)) from (Below.refl _ w).alloc (Nat.le_refl _) _)
  have HR := Lib.hid (RAt.new w q pv hv)
  have HS := Lib.hid (hs.later HB.out)
  have HM := Lib.hid (hm.later HB.out)
  have H8 := Lib.hid hq.r8
  obtain ⟨z, hz⟩ : ∃ b, ownB q = b := ⟨_, rfl⟩
  obtain ⟨c, hc⟩ : ∃ b, q.crs = b := ⟨_, rfl⟩
  obtain ⟨d, hd⟩ : ∃ b, (q.mode == 1) = b := ⟨_, rfl⟩
  have hby : b = (c || (d && !z)) := by rw [← hb, ← hz, ← hc, ← hd]; rfl
  have CC := Lib.hid (fun y => cors_any q pv hv hq.r8 d hd y)
  have CF := Lib.hid (fun x y hm hs => foreign_any q.o q.url pv hq.r8.o hq.os hq.ol hq.u (!z) (by rw [← hz]; rfl) x y hm hs)
  have c43 := HR.out.cell 43
  rw [(cR_at q pv hv H8.out).2.2.2.2.2.2.2.2.1, hc] at c43
  have hr := HR.out
  clear hs hq hb hz hc hd hm
  subst hby
  go_enter Tryz.func19, Tryz.ntmps19
  cases c
  · go_wp2_with ((with_reducible refine wp_load32 (o := ⟨some 6, .load 32 (.tmp 1), _, _, _, _⟩) ?_ (.tmp 1) ?_ w.heap.size ?_ q pv hv H8.out hr ?_); (· rfl); (· rfl); (· rfl); simp only [Act.put, List.setIfInBounds_toArray, List.set_cons_zero, List.set_cons_succ])
    clear hr c43
    generalize w.alloc (.cells (cR q pv hv) 32) = W at HB HR HS HM ⊢
    refine (CC.out _).mono ?_
    rintro e u1 ⟨rfl, hB⟩
    have HB1 := Lib.hid (Ascii.below2 HB.out hB)
    have hr := HR.out.later hB
    have HS1 := Lib.hid (HS.out.later hB)
    have HM1 := Lib.hid (HM.out.later hB)
    clear hB CC HB HR HS HM
    cases d
    · clear hr CF
      go_wp2
      go_ret
      exact ⟨rfl, HB1.out⟩
    · go_wp2_with (first | ((with_reducible refine wp_load29r (o := ⟨some 10, .load 30 (.tmp 9), _, _, _, _⟩) ?_ (.tmp 9) ?_ w.heap.size ?_ q pv hv H8.out hr ?_); (· rfl); (· rfl); (· rfl); simp only [Act.put, List.setIfInBounds_toArray, List.set_cons_zero, List.set_cons_succ]) | ((with_reducible refine wp_load27r (o := ⟨some 12, .load 27 (.tmp 11), _, _, _, _⟩) ?_ (.tmp 11) ?_ w.heap.size ?_ q pv hv H8.out hr ?_); (· rfl); (· rfl); (· rfl); simp only [Act.put, List.setIfInBounds_toArray, List.set_cons_zero, List.set_cons_succ]))
      refine (CF.out _ _ HM1.out HS1.out).mono ?_
      rintro e u2 ⟨rfl, hB⟩
      have hfin := Ascii.below2 HB1.out hB
      cases z
      all_goals
        go_wp2
        go_ret
        exact ⟨rfl, hfin⟩
  · clear hr
    go_wp2
    go_ret
    exact ⟨rfl, HB.out⟩

set_option maxHeartbeats 8000000 in
theorem creds_any (u : U) (pv : Value) (h8 : u.h.p.length = 8) (b : Bool) (hb : credsB u = b) (w : World) :
    Calls Tryz.prog 20 #[.agg (cU u pv)] w fun e w' => e = .returned (.bool b) ∧ Below w.heap.size w w' := by
  have HB := Lib.hid (show Below w.heap.size w (w.alloc (.cells (cU u pv) 27)) from (Below.refl _ w).alloc (Nat.le_refl _) _)
  have hu := UrlAt.new w u pv
  obtain ⟨A, hA⟩ : ∃ x, tb u.usr = x := ⟨_, rfl⟩
  obtain ⟨P, hP⟩ : ∃ x, tb u.pas = x := ⟨_, rfl⟩
  obtain ⟨y, hy⟩ : ∃ b, (u.usr == []) = b := ⟨_, rfl⟩
  obtain ⟨z, hz⟩ : ∃ b, (u.pas == []) = b := ⟨_, rfl⟩
  have e1 : (A.toList == []) = y := by rw [← hy, Path.tl, list_tb hA]
  have e2 : (P.toList == []) = z := by rw [← hz, Path.tl, list_tb hP]
  have hby : b = (!y || !z) := by rw [← hb, ← hy, ← hz]; rfl
  have c1 := hu.cell 1
  rw [(cU_at u pv h8).2.1, hA] at c1
  have c2 := hu.cell 2
  rw [(cU_at u pv h8).2.2.1, hP] at c2
  clear hu hA hP hy hz hb
  subst hby
  go_enter Tryz.func20, Tryz.ntmps20
  cases y <;> cases z
  all_goals
    go_wp2
    go_ret
    exact ⟨rfl, HB.out⟩

set_option maxHeartbeats 16000000 in
theorem quiet_any (q : R) (pv hv : Value) (hq : QFit q) (hh : hv.oneCell' = true) (b : Bool) (hb : quietB q = b) (m : Int) (w : World) (hm : Six.At m w) (hs : Strs w pv q.url.path) :
    Calls Tryz.prog 21 #[.agg (cR q pv hv)] w fun e w' => e = .returned (.bool b) ∧ Below w.heap.size w w' := by
  have HB := Lib.hid (show Below w.heap.size w (w.alloc (.cells (cR q pv hv) 32)) from (Below.refl _ w).alloc (Nat.le_refl _) _)
  have HR := Lib.hid (RAt.new w q pv hv)
  have HS := Lib.hid (hs.later HB.out)
  have HM := Lib.hid (hm.later HB.out)
  have H8 := Lib.hid hq.r8
  obtain ⟨z, hz⟩ : ∃ b, crossB q = b := ⟨_, rfl⟩
  obtain ⟨d, hd⟩ : ∃ b, (q.mode == 1) = b := ⟨_, rfl⟩
  obtain ⟨M, hM⟩ : ∃ x, tb q.mth = x := ⟨_, rfl⟩
  obtain ⟨g, hg⟩ : ∃ b, (q.mth == getT) = b := ⟨_, rfl⟩
  obtain ⟨k, hk⟩ : ∃ b, (q.mth == headT) = b := ⟨_, rfl⟩
  have e1 : (M.toList == [71, 69, 84]) = g := by rw [← hg, Path.tl, list_tb hM]; rfl
  have e2 : (M.toList == [72, 69, 65, 68]) = k := by rw [← hk, Path.tl, list_tb hM]; rfl
  have hby : b = ((g || k) && (!d || !z)) := by rw [← hb, ← hz, ← hd, ← hg, ← hk]; rfl
  have CC := Lib.hid (fun y => cors_any q pv hv hq.r8 d hd y)
  have CW := Lib.hid (fun x y hm hs => crossed_any q pv hv hq hh z hz x y hm hs)
  have c21 := HR.out.cell 21
  rw [(cR_at q pv hv H8.out).1, hM] at c21
  have hr := HR.out
  clear hs hq hb hz hM hg hk hd hm
  subst hby
  go_enter Tryz.func21, Tryz.ntmps21
  cases g <;> cases k
  · clear hr
    go_wp2
    go_ret
    exact ⟨rfl, HB.out⟩
  all_goals
    go_wp2_with ((with_reducible refine wp_load32 (o := ⟨some 12, .load 32 (.tmp 1), _, _, _, _⟩) ?_ (.tmp 1) ?_ w.heap.size ?_ q pv hv H8.out hr ?_); (· rfl); (· rfl); (· rfl); simp only [Act.put, List.setIfInBounds_toArray, List.set_cons_zero, List.set_cons_succ])
    clear hr c21 e1 e2
    generalize w.alloc (.cells (cR q pv hv) 32) = W at HB HR HS HM ⊢
    refine (CC.out _).mono ?_
    rintro e u1 ⟨rfl, hB⟩
    have HB1 := Lib.hid (Ascii.below2 HB.out hB)
    have hr := HR.out.later hB
    have HS1 := Lib.hid (HS.out.later hB)
    have HM1 := Lib.hid (HM.out.later hB)
    clear hB CC HB HR HS HM
    cases d
    · clear hr CW
      go_wp2
      go_ret
      exact ⟨rfl, HB1.out⟩
    · go_wp2_with ((with_reducible refine wp_load32 (o := ⟨some 15, .load 32 (.tmp 1), _, _, _, _⟩) ?_ (.tmp 1) ?_ w.heap.size ?_ q pv hv H8.out hr ?_); (· rfl); (· rfl); (· rfl); simp only [Act.put, List.setIfInBounds_toArray, List.set_cons_zero, List.set_cons_succ])
      refine (CW.out _ _ HM1.out HS1.out).mono ?_
      rintro e u2 ⟨rfl, hB⟩
      have hfin := Ascii.below2 HB1.out hB
      cases z
      all_goals
        go_wp2
        go_ret
        exact ⟨rfl, hfin⟩

theorem always_any (w : World) : Calls Tryz.prog 71 #[] w fun e w' => e = .returned (.bool true) ∧ Below w.heap.size w w' := by
  go_enter Tryz.func71, Tryz.ntmps71
  go_wp2
  go_ret
  exact ⟨rfl, Below.refl _ _⟩

/-- One comes from https, and goes where there is none. -/
def insecB (q : R) : Bool := (q.o.sch == https) && !(q.url.sch == https)

set_option maxHeartbeats 8000000 in
theorem insecure_any (q : R) (pv hv : Value) (h8 : R8 q) (x : Nat) (b : Bool) (hb : insecB q = b) (w : World) (hr : RAt w x q pv hv) :
    Calls Tryz.prog 72 #[.pointer (some ⟨x, 0, none⟩)] w fun e w' => e = .returned (.bool b) ∧ Below w.heap.size w w' := by
  obtain ⟨S, hS⟩ : ∃ x, tb q.o.sch = x := ⟨_, rfl⟩
  obtain ⟨V, hV⟩ : ∃ x, tb q.url.sch = x := ⟨_, rfl⟩
  obtain ⟨g, hg⟩ : ∃ b, (q.o.sch == https) = b := ⟨_, rfl⟩
  obtain ⟨k, hk⟩ : ∃ b, (q.url.sch == https) = b := ⟨_, rfl⟩
  have e1 : (S.toList == [104, 116, 116, 112, 115]) = g := by rw [← hg, Path.tl, list_tb hS]; rfl
  have e2 : (V.toList == [104, 116, 116, 112, 115]) = k := by rw [← hk, Path.tl, list_tb hV]; rfl
  have hby : b = (g && !k) := by rw [← hb, ← hg, ← hk]; rfl
  have c25 := hr.cell 25
  rw [(cR_o q pv hv h8).2.1, hS] at c25
  have c0 := hr.cell 0
  rw [cR_sch q pv hv h8, hV] at c0
  clear hr hS hV hg hk hb h8
  subst hby
  go_enter Tryz.func72, Tryz.ntmps72
  cases g <;> cases k
  all_goals
    go_wp2
    go_ret
    exact ⟨rfl, Below.refl _ _⟩

set_option maxHeartbeats 8000000 in
theorem elsewhere_any (q : R) (pv hv : Value) (hq : QFit q) (x : Nat) (b : Bool) (hb : (!ownB q) = b) (m : Int) (w : World) (hm : Six.At m w) (hs : Strs w pv q.url.path) (hr : RAt w x q pv hv) :
    Calls Tryz.prog 73 #[.pointer (some ⟨x, 0, none⟩)] w fun e w' => e = .returned (.bool b) ∧ Below w.heap.size w w' := by
  have H8 := Lib.hid hq.r8
  have CF := Lib.hid (fun x y hm hs => foreign_any q.o q.url pv hq.r8.o hq.os hq.ol hq.u b hb x y hm hs)
  have HS := Lib.hid hs
  have HM := Lib.hid hm
  clear hq hs hm hb
  go_enter Tryz.func73, Tryz.ntmps73
  go_wp2_with (first | ((with_reducible refine wp_load29r (o := ⟨some 3, .load 30 (.tmp 2), _, _, _, _⟩) ?_ (.tmp 2) ?_ x ?_ q pv hv H8.out hr ?_); (· rfl); (· rfl); (· rfl); simp only [Act.put, List.setIfInBounds_toArray, List.set_cons_zero, List.set_cons_succ]) | ((with_reducible refine wp_load27r (o := ⟨some 5, .load 27 (.tmp 4), _, _, _, _⟩) ?_ (.tmp 4) ?_ x ?_ q pv hv H8.out hr ?_); (· rfl); (· rfl); (· rfl); simp only [Act.put, List.setIfInBounds_toArray, List.set_cons_zero, List.set_cons_succ]))
  refine (CF.out _ _ HM.out HS.out).mono ?_
  rintro e u1 ⟨rfl, hB⟩
  go_wp2
  go_ret
  exact ⟨rfl, hB⟩

/-- What the code's hidden tells. -/
def codeB (q : R) : Bool := !(q.mode == 1) && (if q.pol = 1 then true else if q.pol = 0 ∨ q.pol = 2 ∨ q.pol = 5 ∨ q.pol = 7 then insecB q else if q.pol = 3 then !ownB q else false)

set_option maxHeartbeats 16000000 in
theorem hidden_any (q : R) (pv hv : Value) (hq : QFit q) (hh : hv.oneCell' = true) (b : Bool) (hb : codeB q = b) (m : Int) (w : World) (hm : Six.At m w) (hs : Strs w pv q.url.path) :
    Calls Tryz.prog 28 #[.agg (cR q pv hv)] w fun e w' => e = .returned (.bool b) ∧ Below w.heap.size w w' := by
  have HB := Lib.hid (show Below w.heap.size w (w.alloc (.cells (cR q pv hv) 32)) from (Below.refl _ w).alloc (Nat.le_refl _) _)
  have HR := Lib.hid (RAt.new w q pv hv)
  have HS := Lib.hid (hs.later HB.out)
  have HM := Lib.hid (hm.later HB.out)
  have H8 := Lib.hid hq.r8
  obtain ⟨d, hd⟩ : ∃ b, (q.mode == 1) = b := ⟨_, rfl⟩
  obtain ⟨p, hp⟩ : ∃ n, q.pol = n := ⟨_, rfl⟩
  obtain ⟨s, hsec⟩ : ∃ b, insecB q = b := ⟨_, rfl⟩
  obtain ⟨z, hz⟩ : ∃ b, (!ownB q) = b := ⟨_, rfl⟩
  have hby : b = (!d && (if p = 1 then true else if p = 0 ∨ p = 2 ∨ p = 5 ∨ p = 7 then s else if p = 3 then z else false)) := by rw [← hb, ← hd, ← hp, ← hsec, ← hz]; rfl
  have CC := Lib.hid (fun y => cors_any q pv hv hq.r8 d hd y)
  have CH := Lib.hid (fun y => hidings_any q pv hv y)
  have CI := Lib.hid (fun x y hr => insecure_any q pv hv hq.r8 x s hsec y hr)
  have CE := Lib.hid (fun x k y hm hs hr => elsewhere_any q pv hv hq x z hz k y hm hs hr)
  have HP := Lib.hid (show ∀ (v : World) g, RAt v g q pv hv → v.cell? ⟨g, 40, none⟩ = some (.int .i64 p) from fun v g hr => by
    have c40 := hr.cell 40
    rw [(cR_at q pv hv hq.r8).2.2.2.2.2.1, hp] at c40
    exact c40)
  have hr := HR.out
  clear hs hq hb hd hp hsec hz hm
  go_enter Tryz.func28, Tryz.ntmps28
  go_wp2_with ((with_reducible refine wp_load32 (o := ⟨some 5, .load 32 (.tmp 1), _, _, _, _⟩) ?_ (.tmp 1) ?_ w.heap.size ?_ q pv hv H8.out hr ?_); (· rfl); (· rfl); (· rfl); simp only [Act.put, List.setIfInBounds_toArray, List.set_cons_zero, List.set_cons_succ])
  clear hr
  generalize w.alloc (.cells (cR q pv hv) 32) = W at HB HR HS HM ⊢
  refine (CC.out _).mono ?_
  rintro e u1 ⟨rfl, hB⟩
  have HB1 := Lib.hid (Ascii.below2 HB.out hB)
  have HR1 := Lib.hid (HR.out.later hB)
  have HS1 := Lib.hid (HS.out.later hB)
  have HM1 := Lib.hid (HM.out.later hB)
  clear hB CC HB HR HS HM
  cases d
  case true =>
    obtain rfl : b = false := hby
    go_wp2
    go_ret
    exact ⟨rfl, HB1.out⟩
  replace hby : b = (if p = 1 then true else if p = 0 ∨ p = 2 ∨ p = 5 ∨ p = 7 then s else if p = 3 then z else false) := hby
  have HBY := Lib.hid hby
  clear hby
  go_upto_region 3 with fail
  have hc : Below u1.heap.size u1 u1.drew := (Below.refl _ _).drew
  refine wp_region_held_drew (S := fun v => RAt v w.heap.size q pv hv) (by kernel_rfl) (HR1.out.later hc) (fun hS => ?_)
  generalize u1.drew = y0 at hc hS ⊢
  refine wpAnyH_take (i := 0) (oi := ⟨some 8, .load 32 (.tmp 1), _, _, _, _⟩) (v := .agg (cR q pv hv)) rfl (by kernel_rfl) (by kernel_rfl) (by kernel_rfl) (fun _ _ _ h => h) (Or.inl ⟨by rfl, ?_⟩) (by assumption) ?_
  · (exact fun v hv' => run_load_of 32 (.tmp 1) ⟨w.heap.size, 0, none⟩ rfl (.agg (cR q pv hv)) (hv'.load H8.out))
  simp only [Act.put, List.setIfInBounds_toArray, List.set_cons_zero, List.set_cons_succ]
  refine wpAnyH_take (i := 2) (oi := ⟨some 10, .fieldAddr 32 (.tmp 1) 7, _, _, _, _⟩) (v := .pointer (some ⟨w.heap.size, 40, none⟩)) rfl (by kernel_rfl) (by kernel_rfl) (by kernel_rfl) (fun _ _ _ h => h) (Or.inl ⟨by rfl, ?_⟩) (by assumption) ?_
  · (intro v hv'; go_simp)
  simp only [Act.put, List.setIfInBounds_toArray, List.set_cons_zero, List.set_cons_succ]
  refine wpAnyH_take (i := 3) (oi := ⟨some 11, .load 3 (.tmp 10), _, _, _, _⟩) (v := .int .i64 p) rfl (by kernel_rfl) (by kernel_rfl) (by kernel_rfl) (fun _ _ _ h => h) (Or.inl ⟨by rfl, ?_⟩) (by assumption) ?_
  · (exact fun v hv' => run_load_of 3 (.tmp 10) ⟨w.heap.size, 40, none⟩ rfl (.int .i64 p) (loadI (HP.out v w.heap.size hv')))
  simp only [Act.put, List.setIfInBounds_toArray, List.set_cons_zero, List.set_cons_succ]
  refine wpAnyH_ready (rs := [1]) (by kernel_rfl) (by simp) ?_
  refine AllReadyH.cons (o := ⟨some 9, .call ⟨.value (.func 46), #[.tmp 8], _⟩, _, _, _, _⟩) rfl (fun K hK => ?_) AllReadyH.nil
  go_simp
  go_at_call 46
  refine (CH.out _).mono ?_
  rintro e y1 ⟨bm, gm, rfl, hrm, hhm, hB⟩
  have hc := below_trans hc hB
  refine hK.out _ _ (HR1.out.later hc) (fun hS => ?_)
  clear hB hK
  refine wpAnyH_ready (rs := [4]) (by kernel_rfl) (by simp) ?_
  refine AllReadyH.cons (o := ⟨some 12, .lookup 61 (.tmp 9) (.tmp 11) true, _, _, _, _⟩) rfl (fun K hK => ?_) AllReadyH.nil
  rw [if_pos (by rfl)]
  refine wp_ask (.tmp 9) (.tmp 11) rfl bm gm p rfl rfl hhm ?_
  obtain ⟨f, hf⟩ : ∃ f, hideV gm p = f := ⟨_, rfl⟩
  obtain ⟨c, hcc⟩ : ∃ c, hideI p = c := ⟨_, rfl⟩
  rw [hf, hcc]
  refine hK.out _ _ (HR1.out.later hc) (fun hS => ?_)
  clear hK
  simp only [Act.put, List.setIfInBounds_toArray, List.set_cons_zero, List.set_cons_succ]
  refine wpAnyH_take (i := 5) (oi := ⟨some 7, .move (.tmp 12), _, _, _, _⟩) (v := .tuple #[f, .bool c]) rfl (by kernel_rfl) (by kernel_rfl) (by kernel_rfl) (fun _ _ _ h => h) (Or.inl ⟨by rfl, ?_⟩) (by assumption) ?_
  · (intro v hv'; go_simp)
  simp only [Act.put, List.setIfInBounds_toArray, List.set_cons_zero, List.set_cons_succ]
  refine wpAnyH_take (i := 6) (oi := ⟨some 13, .extract (.tmp 7) 0, _, _, _, _⟩) (v := f) rfl (by kernel_rfl) (by kernel_rfl) (by kernel_rfl) (fun _ _ _ h => h) (Or.inl ⟨by rfl, ?_⟩) (by assumption) ?_
  · (intro v hv'; go_simp)
  simp only [Act.put, List.setIfInBounds_toArray, List.set_cons_zero, List.set_cons_succ]
  refine wpAnyH_take (i := 7) (oi := ⟨some 14, .extract (.tmp 7) 1, _, _, _, _⟩) (v := .bool c) rfl (by kernel_rfl) (by kernel_rfl) (by kernel_rfl) (fun _ _ _ h => h) (Or.inl ⟨by rfl, ?_⟩) (by assumption) ?_
  · (intro v hv'; go_simp)
  simp only [Act.put, List.setIfInBounds_toArray, List.set_cons_zero, List.set_cons_succ]
  refine wpAnyH_take (i := 8) (oi := ⟨some 3, .assign (.tmp 13), _, _, _, _⟩) (v := f) rfl (by kernel_rfl) (by kernel_rfl) (by kernel_rfl) (fun _ _ _ h => h) (Or.inl ⟨by rfl, ?_⟩) (by assumption) ?_
  · (intro v hv'; go_simp)
  simp only [Act.put, List.setIfInBounds_toArray, List.set_cons_zero, List.set_cons_succ]
  refine wpAnyH_take (i := 9) (oi := ⟨some 4, .assign (.tmp 14), _, _, _, _⟩) (v := .bool c) rfl (by kernel_rfl) (by kernel_rfl) (by kernel_rfl) (fun _ _ _ h => h) (Or.inl ⟨by rfl, ?_⟩) (by assumption) ?_
  · (intro v hv'; go_simp)
  simp only [Act.put, List.setIfInBounds_toArray, List.set_cons_zero, List.set_cons_succ]
  refine wpAnyH_done (by kernel_rfl) ?_ _
  have HC := Lib.hid (Ascii.below2 HB1.out hc)
  have HRM := Lib.hid hrm
  have HS2 := Lib.hid (HS1.out.later hc)
  have HM2 := Lib.hid (HM1.out.later hc)
  clear hS hc hrm hhm HR1 HB1 HS1 HM1 CH
  by_cases h0 : p = 0
  · subst h0
    obtain rfl := HBY.out.trans (show (if (0 : Int) = 1 then true else if (0 : Int) = 0 ∨ (0 : Int) = 2 ∨ (0 : Int) = 5 ∨ (0 : Int) = 7 then s else if (0 : Int) = 3 then z else false) = s from rfl)
    obtain rfl : .func (.func 72) #[] #[.pointer (some ⟨gm, 0, none⟩)] = f := hf
    obtain rfl : true = c := hcc
    clear CE HBY
    go_wp2_with fail
    refine (CI.out _ _ HRM.out).mono ?_
    rintro e y2 ⟨rfl, hB⟩
    have hfin := Ascii.below2 HC.out hB
    go_wp2
    go_ret
    exact ⟨rfl, hfin⟩
  by_cases h2 : p = 2
  · subst h2
    obtain rfl := HBY.out.trans (show (if (2 : Int) = 1 then true else if (2 : Int) = 0 ∨ (2 : Int) = 2 ∨ (2 : Int) = 5 ∨ (2 : Int) = 7 then s else if (2 : Int) = 3 then z else false) = s from rfl)
    obtain rfl : .func (.func 72) #[] #[.pointer (some ⟨gm, 0, none⟩)] = f := hf
    obtain rfl : true = c := hcc
    clear CE HBY
    go_wp2_with fail
    refine (CI.out _ _ HRM.out).mono ?_
    rintro e y2 ⟨rfl, hB⟩
    have hfin := Ascii.below2 HC.out hB
    go_wp2
    go_ret
    exact ⟨rfl, hfin⟩
  by_cases h5 : p = 5
  · subst h5
    obtain rfl := HBY.out.trans (show (if (5 : Int) = 1 then true else if (5 : Int) = 0 ∨ (5 : Int) = 2 ∨ (5 : Int) = 5 ∨ (5 : Int) = 7 then s else if (5 : Int) = 3 then z else false) = s from rfl)
    obtain rfl : .func (.func 72) #[] #[.pointer (some ⟨gm, 0, none⟩)] = f := hf
    obtain rfl : true = c := hcc
    clear CE HBY
    go_wp2_with fail
    refine (CI.out _ _ HRM.out).mono ?_
    rintro e y2 ⟨rfl, hB⟩
    have hfin := Ascii.below2 HC.out hB
    go_wp2
    go_ret
    exact ⟨rfl, hfin⟩
  by_cases h7 : p = 7
  · subst h7
    obtain rfl := HBY.out.trans (show (if (7 : Int) = 1 then true else if (7 : Int) = 0 ∨ (7 : Int) = 2 ∨ (7 : Int) = 5 ∨ (7 : Int) = 7 then s else if (7 : Int) = 3 then z else false) = s from rfl)
    obtain rfl : .func (.func 72) #[] #[.pointer (some ⟨gm, 0, none⟩)] = f := hf
    obtain rfl : true = c := hcc
    clear CE HBY
    go_wp2_with fail
    refine (CI.out _ _ HRM.out).mono ?_
    rintro e y2 ⟨rfl, hB⟩
    have hfin := Ascii.below2 HC.out hB
    go_wp2
    go_ret
    exact ⟨rfl, hfin⟩
  by_cases h1 : p = 1
  · subst h1
    obtain rfl := HBY.out.trans (show (if (1 : Int) = 1 then true else if (1 : Int) = 0 ∨ (1 : Int) = 2 ∨ (1 : Int) = 5 ∨ (1 : Int) = 7 then s else if (1 : Int) = 3 then z else false) = true from rfl)
    obtain rfl : .func (.func 71) #[] #[] = f := hf
    obtain rfl : true = c := hcc
    clear CE CI HBY
    go_wp2_with fail
    refine (always_any _).mono ?_
    rintro e y2 ⟨rfl, hB⟩
    have hfin := Ascii.below2 HC.out hB
    go_wp2
    go_ret
    exact ⟨rfl, hfin⟩
  by_cases h3 : p = 3
  · subst h3
    obtain rfl := HBY.out.trans (show (if (3 : Int) = 1 then true else if (3 : Int) = 0 ∨ (3 : Int) = 2 ∨ (3 : Int) = 5 ∨ (3 : Int) = 7 then s else if (3 : Int) = 3 then z else false) = z from rfl)
    obtain rfl : .func (.func 73) #[] #[.pointer (some ⟨gm, 0, none⟩)] = f := hf
    obtain rfl : true = c := hcc
    clear CI HBY
    go_wp2_with fail
    refine (CE.out _ _ _ HM2.out HS2.out HRM.out).mono ?_
    rintro e y2 ⟨rfl, hB⟩
    have hfin := Ascii.below2 HC.out hB
    go_wp2
    go_ret
    exact ⟨rfl, hfin⟩
  obtain rfl : b = false := by rw [HBY.out, if_neg h1, if_neg (by omega), if_neg h3]
  obtain rfl : false = c := by rw [← hcc]; simp [hideI, h0, h1, h2, h3, h5, h7]
  clear CE CI HBY h0 h1 h2 h3 h5 h7 hf hcc
  go_wp2
  go_ret
  exact ⟨rfl, HC.out⟩

set_option maxHeartbeats 16000000 in
theorem taint_any (was : Bool) (o : O) (u v : U) (pv qv : Value) (h8 : o.h.p.length = 8) (hz : o.h.s.size ≤ 1000) (hl : o.sch.length ≤ 1000000) (hf : Fit u) (hg : Fit v) (b : Bool) (hb : taintB was o u v = b) (m : Int) (w : World) (hm : Six.At m w) (hs : Strs w pv u.path) (ht : Strs w qv v.path) :
    Calls Tryz.prog 18 #[.bool was, .agg (cO o), .agg (cU u pv), .agg (cU v qv)] w fun e w' => e = .returned (.bool b) ∧ Below w.heap.size w w' := by
  have hs1 : (w.alloc (.cells (cO o) 30)).heap.size = w.heap.size + 1 := Array.size_push _
  have hs2 : ((w.alloc (.cells (cO o) 30)).alloc (.cells (cU u pv) 27)).heap.size = w.heap.size + 2 := by rw [show ((w.alloc (.cells (cO o) 30)).alloc (.cells (cU u pv) 27)).heap.size = (w.alloc (.cells (cO o) 30)).heap.size + 1 from Array.size_push _, hs1]
  have hb1 := (Below.refl w.heap.size w).alloc (Nat.le_refl _) (.cells (cO o) 30)
  have hb2 := hb1.alloc (by omega) (.cells (cU u pv) 27)
  have hb3 := hb2.alloc (by omega) (.cells (cU v qv) 27)
  have HB := Lib.hid hb3
  have HO := Lib.hid (((OAt.new w o).past (.cells (cU u pv) 27)).past (.cells (cU v qv) 27))
  have HU := Lib.hid ((show UrlAt ((w.alloc (.cells (cO o) 30)).alloc (.cells (cU u pv) 27)) (w.heap.size + 1) u pv from by rw [← hs1]; exact UrlAt.new _ u pv).past (.cells (cU v qv) 27))
  have HV := Lib.hid (show UrlAt (((w.alloc (.cells (cO o) 30)).alloc (.cells (cU u pv) 27)).alloc (.cells (cU v qv) 27)) (w.heap.size + 2) v qv from by rw [← hs2]; exact UrlAt.new _ v qv)
  have HS := Lib.hid (hs.later hb3)
  have HT := Lib.hid (ht.later hb3)
  have HM := Lib.hid (hm.later hb3)
  obtain ⟨y, hy⟩ : ∃ b, bothU u v = b := ⟨_, rfl⟩
  obtain ⟨z, hzz⟩ : ∃ b, (!sameO o (ofU u)) = b := ⟨_, rfl⟩
  have hby : b = (was || (!y && z)) := by rw [← hb, ← hy, ← hzz]; rfl
  have CB := Lib.hid (fun k x hm hs ht => both_any u v pv qv hf hg y hy k x hm hs ht)
  have CF := Lib.hid (fun k x hm hs => foreign_any o u pv h8 hz hl hf z hzz k x hm hs)
  have H8 := Lib.hid hf.h8
  have K8 := Lib.hid hg.h8
  have O8 := Lib.hid h8
  clear hs1 hs2 hb1 hb2 hb3 hf hg hs ht hb hy hzz h8 hz hl hm
  subst hby
  have hu := HU.out
  have hv := HV.out
  go_enter Tryz.func18, Tryz.ntmps18
  cases was
  · go_wp2_with (first | ((with_reducible refine wp_load27 (o := ⟨some 11, .load 27 (.tmp 6), _, _, _, _⟩) ?_ (.tmp 6) ?_ (w.heap.size + 1) ?_ u pv H8.out hu ?_); (· rfl); (· rfl); (· rfl); simp only [Act.put, List.setIfInBounds_toArray, List.set_cons_zero, List.set_cons_succ]) | ((with_reducible refine wp_load27 (o := ⟨some 12, .load 27 (.tmp 7), _, _, _, _⟩) ?_ (.tmp 7) ?_ (w.heap.size + 2) ?_ v qv K8.out hv ?_); (· rfl); (· rfl); (· rfl); simp only [Act.put, List.setIfInBounds_toArray, List.set_cons_zero, List.set_cons_succ]))
    clear hu hv
    generalize (((w.alloc (.cells (cO o) 30)).alloc (.cells (cU u pv) 27)).alloc (.cells (cU v qv) 27)) = W at HB HO HU HV HS HT HM ⊢
    refine (CB.out _ _ HM.out HS.out HT.out).mono ?_
    rintro e u1 ⟨rfl, hB⟩
    have HB1 := Lib.hid (Ascii.below2 HB.out hB)
    have ho := HO.out.later hB
    have hu := HU.out.later hB
    have HS1 := Lib.hid (HS.out.later hB)
    have HM1 := Lib.hid (HM.out.later hB)
    clear hB CB HB HO HU HV HS HT HM
    cases y
    · go_wp2_with (first | ((with_reducible refine wp_load29 (o := ⟨some 16, .load 30 (.tmp 5), _, _, _, _⟩) ?_ (.tmp 5) ?_ w.heap.size ?_ o O8.out ho ?_); (· rfl); (· rfl); (· rfl); simp only [Act.put, List.setIfInBounds_toArray, List.set_cons_zero, List.set_cons_succ]) | ((with_reducible refine wp_load27 (o := ⟨some 17, .load 27 (.tmp 6), _, _, _, _⟩) ?_ (.tmp 6) ?_ (w.heap.size + 1) ?_ u pv H8.out hu ?_); (· rfl); (· rfl); (· rfl); simp only [Act.put, List.setIfInBounds_toArray, List.set_cons_zero, List.set_cons_succ]))
      refine (CF.out _ _ HM1.out HS1.out).mono ?_
      rintro e x ⟨rfl, hx⟩
      have hfin := Ascii.below2 HB1.out hx
      cases z
      all_goals
        go_wp2
        go_ret
        exact ⟨rfl, hfin⟩
    · clear hu ho CF
      go_wp2
      go_ret
      exact ⟨rfl, HB1.out⟩
  · clear hu hv
    go_wp2
    go_ret
    exact ⟨rfl, HB.out⟩

theorem show_opaque {o : O} (h : o.opaq = true) : showO o = nullT := by unfold showO; rw [h]; rfl

theorem code_hide (q : R) : (q.tnt || codeB q) = false → nullB q = false := by
  unfold nullB codeB hideB downB insecB
  intro h
  by_cases h1 : q.pol = 1
  · simp_all
  by_cases h2 : q.pol = 0 ∨ q.pol = 2 ∨ q.pol = 5 ∨ q.pol = 7
  · simp only [h1, h2, if_true, if_false] at h ⊢
    cases ht : q.tnt <;> cases hd : (q.mode == 1) <;> cases ho : q.o.opaq <;> simp_all
  by_cases h3 : q.pol = 3
  · simp_all
  · simp_all

theorem code_null (q : R) (hq : quietB q = false) (h : (q.tnt || codeB q) = true) : sendsT q = nullT := by
  cases hn : nullB q
  · have ho : q.o.opaq = true := by
      unfold nullB hideB downB at hn
      unfold codeB insecB at h
      by_cases h1 : q.pol = 1
      · simp_all
      by_cases h2 : q.pol = 0 ∨ q.pol = 2 ∨ q.pol = 5 ∨ q.pol = 7
      · simp only [h1, h2, if_true, if_false] at h hn
        cases ht : q.tnt <;> cases hd : (q.mode == 1) <;> cases ho : q.o.opaq <;> simp_all
      by_cases h3 : q.pol = 3
      · simp_all
      · simp_all
    rw [(sends_own hq hn).2, show_opaque ho]
  · exact (sends_null hq hn).2

theorem code_sends (q : R) (hq : quietB q = false) : sendsB q = true := by unfold sendsB; rw [hq]; rfl

set_option maxHeartbeats 16000000 in
theorem sends_any (q : R) (pv hv : Value) (hq : QFit q) (hh : hv.oneCell' = true) (b : Bool) (hb : sendsB q = b) (X : ByteArray) (hX : tb (sendsT q) = X) (m : Int) (w : World) (hm : Six.At m w) (hs : Strs w pv q.url.path) :
    Calls Tryz.prog 12 #[.agg (cR q pv hv)] w fun e w' => e = .returned (.tuple #[.string X, .bool b]) ∧ Below w.heap.size w w' := by
  have HB := Lib.hid (show Below w.heap.size w (w.alloc (.cells (cR q pv hv) 32)) from (Below.refl _ w).alloc (Nat.le_refl _) _)
  have HR := Lib.hid (RAt.new w q pv hv)
  have HS := Lib.hid (hs.later HB.out)
  have HM := Lib.hid (hm.later HB.out)
  have H8 := Lib.hid hq.r8
  obtain ⟨z, hz⟩ : ∃ b, quietB q = b := ⟨_, rfl⟩
  obtain ⟨t, ht⟩ : ∃ b, q.tnt = b := ⟨_, rfl⟩
  obtain ⟨k, hk⟩ : ∃ b, codeB q = b := ⟨_, rfl⟩
  obtain ⟨S, hS⟩ : ∃ x, tb (showO q.o) = x := ⟨_, rfl⟩
  have F1 := Lib.hid (show z = true → b = false ∧ X = ⟨#[]⟩ from fun e => by
    obtain ⟨x1, x2⟩ := sends_not (hz.trans e)
    exact ⟨hb.symm.trans x1, by rw [← hX, x2]; rfl⟩)
  have F2 := Lib.hid (show z = false → (t || k) = true → b = true ∧ X = ⟨#[110, 117, 108, 108]⟩ from fun e e' => by
    exact ⟨hb.symm.trans (code_sends q (hz.trans e)), by rw [← hX, code_null q (hz.trans e) (by rw [ht, hk]; exact e')]; rfl⟩)
  have F3 := Lib.hid (show z = false → (t || k) = false → b = true ∧ X = S from fun e e' => by
    obtain ⟨x1, x2⟩ := sends_own (hz.trans e) (code_hide q (by rw [ht, hk]; exact e'))
    exact ⟨hb.symm.trans x1, by rw [← hX, x2, hS]⟩)
  have CQ := Lib.hid (fun x y hm hs => quiet_any q pv hv hq hh z hz x y hm hs)
  have CH := Lib.hid (fun x y hm hs => hidden_any q pv hv hq hh k hk x y hm hs)
  have CO := Lib.hid (fun x y hm => oshow_any q.o hq.r8.o hq.os hq.ol S hS x y hm)
  have HT := Lib.hid ht
  clear hs hq hb hX hz ht hk hS hm
  have hr := HR.out
  go_enter Tryz.func12, Tryz.ntmps12
  go_wp2_with ((with_reducible refine wp_load32 (o := ⟨some 4, .load 32 (.tmp 1), _, _, _, _⟩) ?_ (.tmp 1) ?_ w.heap.size ?_ q pv hv H8.out hr ?_); (· rfl); (· rfl); (· rfl); simp only [Act.put, List.setIfInBounds_toArray, List.set_cons_zero, List.set_cons_succ])
  clear hr
  generalize w.alloc (.cells (cR q pv hv) 32) = W at HB HR HS HM ⊢
  refine (CQ.out _ _ HM.out HS.out).mono ?_
  rintro e u1 ⟨rfl, hB⟩
  have HB1 := Lib.hid (Ascii.below2 HB.out hB)
  have HR1 := Lib.hid (HR.out.later hB)
  have HS1 := Lib.hid (HS.out.later hB)
  have HM1 := Lib.hid (HM.out.later hB)
  clear hB CQ HB HR HS HM
  cases z
  case true =>
    obtain ⟨rfl, rfl⟩ := F1.out (by first | rfl | trivial)
    clear F1 F2 F3 CO CH
    go_wp2
    go_ret2
    exact ⟨rfl, HB1.out⟩
  have hr := HR1.out
  have c42 := hr.cell 42
  rw [(cR_at q pv hv H8.out).2.2.2.2.2.2.2.1, HT.out] at c42
  cases t
  · go_wp2_with ((with_reducible refine wp_load32 (o := ⟨some 9, .load 32 (.tmp 1), _, _, _, _⟩) ?_ (.tmp 1) ?_ w.heap.size ?_ q pv hv H8.out hr ?_); (· rfl); (· rfl); (· rfl); simp only [Act.put, List.setIfInBounds_toArray, List.set_cons_zero, List.set_cons_succ])
    clear hr
    refine (CH.out _ _ HM1.out HS1.out).mono ?_
    rintro e u2 ⟨rfl, hB⟩
    have HB2 := Lib.hid (Ascii.below2 HB1.out hB)
    have hr := HR1.out.later hB
    have HM2 := Lib.hid (HM1.out.later hB)
    clear hB CH HB1 HR1 HS1 HM1 c42
    cases k
    · obtain ⟨rfl, rfl⟩ := F3.out (by first | rfl | trivial) (by first | rfl | trivial)
      clear F1 F2 F3
      go_wp2_with ((with_reducible refine wp_load29r (o := ⟨some 13, .load 30 (.tmp 12), _, _, _, _⟩) ?_ (.tmp 12) ?_ w.heap.size ?_ q pv hv H8.out hr ?_); (· rfl); (· rfl); (· rfl); simp only [Act.put, List.setIfInBounds_toArray, List.set_cons_zero, List.set_cons_succ])
      refine (CO.out _ _ HM2.out).mono ?_
      rintro e u3 ⟨rfl, hB⟩
      have hfin := Ascii.below2 HB2.out hB
      go_wp2
      go_ret2
      exact ⟨rfl, hfin⟩
    · obtain ⟨rfl, rfl⟩ := F2.out (by first | rfl | trivial) (by first | rfl | trivial)
      clear F1 F2 F3 CO hr
      go_wp2
      go_ret2
      exact ⟨rfl, HB2.out⟩
  · obtain ⟨rfl, rfl⟩ := F2.out (by first | rfl | trivial) (by first | rfl | trivial)
    clear F1 F2 F3 CO hr
    go_wp2
    go_ret2
    exact ⟨rfl, HB1.out⟩

end Go.Proofs.YtlkikfdbjpjpaaaGreatDoor.Taint
